import PyProof.Rows.All
import KE.KStateDown
import Lean
import HandS.Words
import HandS.WordsExc
import HandS.Head0
import HandS.Head1
import HandS.Head2
import HandS.HeadEnd
import HandS.HeadHook1
import HandS.HeadHook2
import HandS.HeadHook4
import HandS.Head3
import Wide.All
import OpenK.AllK
import Wide.FinOn
import HandS.ForMost
import HandS.Walk
import HandS.Wide
import HandS.IsInst
import HandS.Lambda
import HandS.TupAny
import HandS.Flt
import HandS.Zip
import HandS.Defaults
import HandS.Ends
import HandS.TryOnly
import HandS.RaiseMore
import KE.GoesMore
import PyProof.ReprRoads
import PyProof.ReprLen
import PyProof.Rows.RegStrFacts
import HandS.SortInts
import HandS.Sort
import KE.KSortTupUse
import HandS.Style
import HandS.Gcd
import HandS.TupMul
import HandS.ExcInit
import HandS.ExcField
import HandS.Iter
import HandS.Dict
import PyProof.ZipIter
import HandS.EndTab
import HandS.Conv
import PyProof.TupleOfSeq
import PyProof.Rows.SortWalk
import KE.DataMinKey
import PyProof.WalkInts
import HandS.FltList
import PyProof.P3In
import HandS.SetFor
import HandS.WideMore
import HandS.TupLe
import PyProof.P3Eq
import PySem.Challenge.RW_tubewords_k29_ways_rings_sources
set_option Elab.async false
set_option linter.all false
set_option maxRecDepth 100000
set_option maxHeartbeats 0
namespace Dl
open PySem L2
/-- told by a Bool: the class stands over ValueError, is made, is raised, its instances' fields are read -/
def xcA (K : PySem.W.Frag) (C : Addr) : Bool := match K.lookup C with
  | some ⟨.type "type", _, .cls cd, sl⟩ => (match cd.mro, sl.toList with
    | .ref c :: bm, [_, _, _, _, some (.builtin n), _] => decide (c = C) && (decide (n = "ValueError.__new__") && (cd.hasDict && (!cd.hasDel && PySem.HandSPX.refsVE bm)))
    | _, _ => false)
  | _ => false
def xcB (K : PySem.W.Frag) (C : Addr) : Bool := xcA K C && (decide (PySem.W.findIn K (.ref C) "__setattr__" = some (some (.builtin "object.__setattr__"))) &&
  (decide (PySem.W.typeIn K (.ref C) = some (.type "type")) && (PySem.W.keepIn K (.ref C) && xfB K C)))
def clsFn (st : Stmt) (j : Nat) : Stmt := match st with
  | .ClassDef (body := b) .. => b.getD j (.Pass ⟨0, 0, 0, 0⟩)
  | _ => .Pass ⟨0, 0, 0, 0⟩
end Dl
namespace K
open PySem L2 Dl
def top (i : Nat) : Stmt := PySem.Challenge.pw_tubewords_k29_ways_rings_sources.main.body.getD i (.Pass ⟨0, 0, 0, 0⟩)
abbrev i_NotInOne : Stmt := clsFn (top 2) 0
abbrev s_law_outcome : Stmt := top 47
abbrev s_law_begun : Stmt := top 29
abbrev s_law_draw : Stmt := top 30
abbrev s_law_of : Stmt := top 31
abbrev s_law_web : Stmt := top 32
abbrev s_law_ends : Stmt := top 33
abbrev s_law_out : Stmt := top 34
abbrev s_law_home : Stmt := top 40
abbrev sways_out : Stmt := top 5
abbrev sways_over : Stmt := top 19
abbrev sends_of : Stmt := top 4
abbrev sfirst_ways : Stmt := top 18
abbrev snumbers_of : Stmt := top 8
abbrev scrossings_of : Stmt := top 9
abbrev swalk_with : Stmt := top 10
abbrev sjoined_of_any_size : Stmt := top 13
abbrev send_room : Stmt := top 12
abbrev scrossings_back : Stmt := top 11
abbrev sopposite_walk : Stmt := top 14
abbrev sbrought_along : Stmt := top 23
abbrev srings_over : Stmt := top 21
abbrev spiece_of : Stmt := top 6
abbrev sties_of_piece : Stmt := top 17
abbrev srings_at : Stmt := top 20
abbrev ssources_at : Stmt := top 22
abbrev s_law_turns : Stmt := top 35
abbrev s_law_walk : Stmt := top 36
abbrev s_law_joined : Stmt := top 39
abbrev s_law_end : Stmt := top 37
abbrev s_law_closed : Stmt := top 41
abbrev sgo_along : Stmt := top 25
abbrev splain_of_any_size : Stmt := top 26
abbrev sare_equal : Stmt := top 27
abbrev s_law_bare : Stmt := top 43
abbrev s_law_plain : Stmt := top 42
abbrev s_law_back : Stmt := top 38
abbrev s_law_power : Stmt := top 48
abbrev s_law_product : Stmt := top 49
abbrev s_law_rings : Stmt := top 45
abbrev s_law_sources : Stmt := top 46
abbrev sfirst_way : Stmt := top 16
abbrev s_law_right : Stmt := top 50
abbrev slaw : Stmt := top 51
end K
namespace K
open PySem PySem.Spec PyProof.Rows L2 Dl
/-! ### the head -/
def d_law_begun : He.DefD := ⟨("_law_begun", none), "_law_begun", "_law_begun", defArgs s_law_begun, defBody s_law_begun, defScope s_law_begun, [], []⟩
def d_law_draw : He.DefD := ⟨("_law_draw", none), "_law_draw", "_law_draw", defArgs s_law_draw, defBody s_law_draw, defScope s_law_draw, [], []⟩
def d_law_of : He.DefD := ⟨("_law_of", none), "_law_of", "_law_of", defArgs s_law_of, defBody s_law_of, defScope s_law_of, [], []⟩
def d_law_web : He.DefD := ⟨("_law_web", none), "_law_web", "_law_web", defArgs s_law_web, defBody s_law_web, defScope s_law_web, [], []⟩
def d_law_ends : He.DefD := ⟨("_law_ends", none), "_law_ends", "_law_ends", defArgs s_law_ends, defBody s_law_ends, defScope s_law_ends, [], []⟩
def d_law_out : He.DefD := ⟨("_law_out", none), "_law_out", "_law_out", defArgs s_law_out, defBody s_law_out, defScope s_law_out, [], []⟩
def d_law_home : He.DefD := ⟨("_law_home", none), "_law_home", "_law_home", defArgs s_law_home, defBody s_law_home, defScope s_law_home, [], []⟩
def dways_out : He.DefD := ⟨("ways_out", none), "ways_out", "ways_out", defArgs sways_out, defBody sways_out, defScope sways_out, [], []⟩
def dways_over : He.DefD := ⟨("ways_over", none), "ways_over", "ways_over", defArgs sways_over, defBody sways_over, defScope sways_over, [], []⟩
def dends_of : He.DefD := ⟨("ends_of", none), "ends_of", "ends_of", defArgs sends_of, defBody sends_of, defScope sends_of, [], []⟩
def dfirst_ways : He.DefD := ⟨("first_ways", none), "first_ways", "first_ways", defArgs sfirst_ways, defBody sfirst_ways, defScope sfirst_ways, [], []⟩
def dnumbers_of : He.DefD := ⟨("numbers_of", none), "numbers_of", "numbers_of", defArgs snumbers_of, defBody snumbers_of, defScope snumbers_of, [], []⟩
def dcrossings_of : He.DefD := ⟨("crossings_of", none), "crossings_of", "crossings_of", defArgs scrossings_of, defBody scrossings_of, defScope scrossings_of, [], []⟩
def dwalk_with : He.DefD := ⟨("walk_with", none), "walk_with", "walk_with", defArgs swalk_with, defBody swalk_with, defScope swalk_with, [], []⟩
def djoined_of_any_size : He.DefD := ⟨("joined_of_any_size", none), "joined_of_any_size", "joined_of_any_size", defArgs sjoined_of_any_size, defBody sjoined_of_any_size, defScope sjoined_of_any_size, [], []⟩
def dend_room : He.DefD := ⟨("end_room", none), "end_room", "end_room", defArgs send_room, defBody send_room, defScope send_room, [], []⟩
def dcrossings_back : He.DefD := ⟨("crossings_back", none), "crossings_back", "crossings_back", defArgs scrossings_back, defBody scrossings_back, defScope scrossings_back, [], []⟩
def dopposite_walk : He.DefD := ⟨("opposite_walk", none), "opposite_walk", "opposite_walk", defArgs sopposite_walk, defBody sopposite_walk, defScope sopposite_walk, [], []⟩
def dbrought_along : He.DefD := ⟨("brought_along", none), "brought_along", "brought_along", defArgs sbrought_along, defBody sbrought_along, defScope sbrought_along, [], []⟩
def drings_over : He.DefD := ⟨("rings_over", none), "rings_over", "rings_over", defArgs srings_over, defBody srings_over, defScope srings_over, [], []⟩
def dpiece_of : He.DefD := ⟨("piece_of", none), "piece_of", "piece_of", defArgs spiece_of, defBody spiece_of, defScope spiece_of, [], []⟩
def dties_of_piece : He.DefD := ⟨("ties_of_piece", none), "ties_of_piece", "ties_of_piece", defArgs sties_of_piece, defBody sties_of_piece, defScope sties_of_piece, [], []⟩
def drings_at : He.DefD := ⟨("rings_at", none), "rings_at", "rings_at", defArgs srings_at, defBody srings_at, defScope srings_at, [], []⟩
def dsources_at : He.DefD := ⟨("sources_at", none), "sources_at", "sources_at", defArgs ssources_at, defBody ssources_at, defScope ssources_at, [], []⟩
def d_law_turns : He.DefD := ⟨("_law_turns", none), "_law_turns", "_law_turns", defArgs s_law_turns, defBody s_law_turns, defScope s_law_turns, [], []⟩
def d_law_walk : He.DefD := ⟨("_law_walk", none), "_law_walk", "_law_walk", defArgs s_law_walk, defBody s_law_walk, defScope s_law_walk, [], []⟩
def d_law_joined : He.DefD := ⟨("_law_joined", none), "_law_joined", "_law_joined", defArgs s_law_joined, defBody s_law_joined, defScope s_law_joined, [], []⟩
def d_law_end : He.DefD := ⟨("_law_end", none), "_law_end", "_law_end", defArgs s_law_end, defBody s_law_end, defScope s_law_end, [], []⟩
def d_law_closed : He.DefD := ⟨("_law_closed", none), "_law_closed", "_law_closed", defArgs s_law_closed, defBody s_law_closed, defScope s_law_closed, [], []⟩
def dgo_along : He.DefD := ⟨("go_along", none), "go_along", "go_along", defArgs sgo_along, defBody sgo_along, defScope sgo_along, [], []⟩
def dplain_of_any_size : He.DefD := ⟨("plain_of_any_size", none), "plain_of_any_size", "plain_of_any_size", defArgs splain_of_any_size, defBody splain_of_any_size, defScope splain_of_any_size, [], []⟩
def dare_equal : He.DefD := ⟨("are_equal", none), "are_equal", "are_equal", defArgs sare_equal, defBody sare_equal, defScope sare_equal, [], []⟩
def d_law_bare : He.DefD := ⟨("_law_bare", none), "_law_bare", "_law_bare", defArgs s_law_bare, defBody s_law_bare, defScope s_law_bare, [], []⟩
def d_law_plain : He.DefD := ⟨("_law_plain", none), "_law_plain", "_law_plain", defArgs s_law_plain, defBody s_law_plain, defScope s_law_plain, [], []⟩
def d_law_back : He.DefD := ⟨("_law_back", none), "_law_back", "_law_back", defArgs s_law_back, defBody s_law_back, defScope s_law_back, [], []⟩
def d_law_power : He.DefD := ⟨("_law_power", none), "_law_power", "_law_power", defArgs s_law_power, defBody s_law_power, defScope s_law_power, [], []⟩
def d_law_product : He.DefD := ⟨("_law_product", none), "_law_product", "_law_product", defArgs s_law_product, defBody s_law_product, defScope s_law_product, [], []⟩
def d_law_rings : He.DefD := ⟨("_law_rings", none), "_law_rings", "_law_rings", defArgs s_law_rings, defBody s_law_rings, defScope s_law_rings, [], []⟩
def d_law_sources : He.DefD := ⟨("_law_sources", none), "_law_sources", "_law_sources", defArgs s_law_sources, defBody s_law_sources, defScope s_law_sources, [], []⟩
def dfirst_way : He.DefD := ⟨("first_way", none), "first_way", "first_way", defArgs sfirst_way, defBody sfirst_way, defScope sfirst_way, [], []⟩
def d_law_right : He.DefD := ⟨("_law_right", none), "_law_right", "_law_right", defArgs s_law_right, defBody s_law_right, defScope s_law_right, [], []⟩
def d_law_outcome : He.DefD := ⟨("_law_outcome", none), "_law_outcome", "_law_outcome", defArgs s_law_outcome, defBody s_law_outcome, defScope s_law_outcome, [], []⟩
def dlaw : He.DefD := ⟨("law", none), "law", "law", defArgs slaw, defBody slaw, defScope slaw, [], []⟩
def dI_NotInOne : He.DefD := ⟨("NotInOne", some "__init__"), "__init__", "NotInOne.__init__", defArgs i_NotInOne, defBody i_NotInOne, defScope i_NotInOne, [], []⟩
def fn : List He.DefD := [d_law_begun, d_law_draw, d_law_of, d_law_web, d_law_ends, d_law_out, d_law_home, dways_out, dways_over, dends_of, dfirst_ways, dnumbers_of, dcrossings_of, dwalk_with, djoined_of_any_size, dend_room, dcrossings_back, dopposite_walk, dbrought_along, drings_over, dpiece_of, dties_of_piece, drings_at, dsources_at, d_law_turns, d_law_walk, d_law_joined, d_law_end, d_law_closed, dgo_along, dplain_of_any_size, dare_equal, d_law_bare, d_law_plain, d_law_back, d_law_power, d_law_product, d_law_rings, d_law_sources, dfirst_way, d_law_right, d_law_outcome, dlaw, dI_NotInOne]
def fa : List He.Fa := [.glo "_law_begun", .glo "_law_draw", .glo "_law_of", .glo "_law_web", .glo "_law_ends", .glo "_law_out", .glo "_law_home", .glo "ways_out", .glo "ways_over", .glo "ends_of", .glo "first_ways", .glo "numbers_of", .glo "crossings_of", .glo "walk_with", .glo "joined_of_any_size", .glo "end_room", .glo "crossings_back", .glo "opposite_walk", .glo "brought_along", .glo "rings_over", .glo "piece_of", .glo "ties_of_piece", .glo "rings_at", .glo "sources_at", .glo "_law_turns", .glo "_law_walk", .glo "_law_joined", .glo "_law_end", .glo "_law_closed", .glo "go_along", .glo "plain_of_any_size", .glo "are_equal", .glo "_law_bare", .glo "_law_plain", .glo "_law_back", .glo "_law_power", .glo "_law_product", .glo "_law_rings", .glo "_law_sources", .glo "first_way", .glo "_law_right", .glo "_law_outcome", .glo "law", .free "abs", .free "enumerate", .free "int", .free "len", .free "list", .free "min", .free "range", .free "repr", .free "sorted", .free "tuple", .free "zip", .glo "NotInOne", .meth "NotInOne" "__init__", .noat "NotInOne" "room", .exm "NotInOne" "NotInOne" true]
abbrev R : PySem.W.OpenRow := PySem.W.OpenLaw.row PySem.Challenge.rw_tubewords_k29_ways_rings_sources
def ex (K : PySem.W.Frag) : Bool := xcB K (He.ga K "NotInOne")
def tf : List He.Defn := [("_law_right", none)]
abbrev hk : PySem.W.Hook := He.hookX 4 fa fn [] tf ex
def ob (s : PySem.W.SharedT) : He.AlX := He.obsX 4 fa fn [] tf ex (HandSHeadRun.getT s)
theorem ob_eq (s : PySem.W.SharedT) : ob s = hk.obs s.abs := He.obsX_eq (HandSHeadRun.getT_eq s)
theorem run (w : World) : HandSHeadRun.RunEq R (PySem.W.view R.prog [51]) hk ob 6000 ([("_law_begun" : PySem.Str), ("_law_draw" : PySem.Str), ("_law_of" : PySem.Str), ("_law_web" : PySem.Str), ("_law_ends" : PySem.Str), ("_law_out" : PySem.Str), ("_law_home" : PySem.Str), ("ways_out" : PySem.Str), ("ways_over" : PySem.Str), ("ends_of" : PySem.Str), ("first_ways" : PySem.Str), ("numbers_of" : PySem.Str), ("crossings_of" : PySem.Str), ("walk_with" : PySem.Str), ("joined_of_any_size" : PySem.Str), ("end_room" : PySem.Str)] ++ [("crossings_back" : PySem.Str), ("opposite_walk" : PySem.Str), ("brought_along" : PySem.Str), ("rings_over" : PySem.Str), ("piece_of" : PySem.Str), ("ties_of_piece" : PySem.Str), ("rings_at" : PySem.Str), ("sources_at" : PySem.Str), ("_law_turns" : PySem.Str), ("_law_walk" : PySem.Str), ("_law_joined" : PySem.Str), ("_law_end" : PySem.Str), ("_law_closed" : PySem.Str), ("go_along" : PySem.Str), ("plain_of_any_size" : PySem.Str), ("are_equal" : PySem.Str)] ++ [("_law_bare" : PySem.Str), ("_law_plain" : PySem.Str), ("_law_back" : PySem.Str), ("_law_power" : PySem.Str), ("_law_product" : PySem.Str), ("_law_rings" : PySem.Str), ("_law_sources" : PySem.Str), ("first_way" : PySem.Str), ("_law_right" : PySem.Str), ("_law_outcome" : PySem.Str), ("WebError" : PySem.Str), ("NotInOne" : PySem.Str), ("_law_over" : PySem.Str), ("__name__" : PySem.Str), ("__name__" : PySem.Str), ("__name__" : PySem.Str)] ++ [("__name__" : PySem.Str), ("__name__" : PySem.Str), ("__name__" : PySem.Str)]) w := by
  intro os
  kernel_rfl
end K
set_option Elab.async false
set_option maxRecDepth 100000
set_option linter.all false
set_option autoImplicit false
/-! A layer over plain data: values are PyData, the heap is split into what stays as it is (F) and the lists that one name alone owns. -/
namespace Dl
open PySem L2
abbrev Px := PyData
def Le (F G : Hp) : Prop := ∀ a o, F a = some o → G a = some o
theorem Le.refl (F : Hp) : Le F F := fun _ _ h => h
theorem Le.trans {F G I : Hp} (h : Le F G) (k : Le G I) : Le F I := fun a o e => k a o (h a o e)
theorem Le.nn {F G : Hp} (h : Le F G) {a : Addr} (e : G a = none) : F a = none := by
  cases q : F a with
  | none => rfl
  | some o => rw [h a o q] at e; cases e
theorem Le.up {F : Hp} {p : Addr} {o : HO} (h : F p = none) : Le F (upd F p o) := fun a u e => by
  rw [upd_ne (ne_of_none e h)]; exact e
theorem Le.up2 {F G : Hp} {p : Addr} {o : HO} (h : Le F G) : Le (upd F p o) (upd G p o) := fun a u e => by
  by_cases q : a = p
  · subst q; rw [upd_same] at e ⊢; exact e
  · rw [upd_ne q] at e ⊢; exact h a u e
/-- the tables of code objects, by the module's facts (a law without a lambda has none), and the module's own tuples -/
class TabF where
  T : PySem.W.Frag → List (Addr × Str)
  K : PySem.W.Frag
  C : Addr → Option (List V)
  ok : ∀ (a : Addr) (vs : List V), C a = some vs → ∀ H : Hp, SqT K H a vs
  N : Str → Option Addr
variable [TabF]
/-- a tuple stands there: of the heap part, or of the module -/
def TupF (F : Hp) (a : Addr) (vs : List V) : Prop := F a = some (.tup vs) ∨ TabF.C a = some vs
theorem TupF.of {F : Hp} {a : Addr} {vs : List V} (h : F a = some (.tup vs)) : TupF F a vs := .inl h
theorem TupF.mono {F G : Hp} {a : Addr} {vs : List V} (h : Le F G) (e : TupF F a vs) : TupF G a vs := e.imp (h a _) id
theorem TupF.sq {K : PySem.W.Frag} {F G : Hp} {a : Addr} {vs : List V} (hk : K = TabF.K) (h : Le F G) (e : TupF F a vs) : SqT K G a vs := by
  rcases e with e | e
  · exact SqT.of (h _ _ e)
  · subst hk
    exact TabF.ok a vs e G
mutual
inductive Rp (F : Hp) : V → Px → Prop
  | non : Rp F .non .none
  | bl (b : Bool) : Rp F (.bl b) (.bool b)
  | int (i : Int) : Rp F (.int i) (.int i)
  | str (x : Str) : Rp F (.str x) (.str x)
  | lst {a : Addr} {vs : List V} {ds : List Px} : F a = some (.lst vs) → RpA F vs ds → Rp F (.ref a) (.list ds)
  | tup {a : Addr} {vs : List V} {ds : List Px} : TupF F a vs → RpA F vs ds → Rp F (.ref a) (.tuple ds)
  | fn {x : Str} {a : Addr} : TabF.N x = some a → Rp F (.ref a) (.dict [(.str x, .none)])
  | dct {a : Addr} {ws : List (Key × V)} {kv1 kv2 : Px × Px} {kvs : List (Px × Px)} : F a = some (.dK ws) → RpW F ws (kv1 :: kv2 :: kvs) → Rp F (.ref a) (.dict (kv1 :: kv2 :: kvs))
  | dci {a : Addr} {o : Obj} {ws : List (Key × V)} {kvs : List (Px × Px)} : F a = some (.frz o (.dK ws)) → RpI F ws kvs → Rp F (.ref a) (.dict ((.none, .none) :: kvs))
inductive RpA (F : Hp) : List V → List Px → Prop
  | nil : RpA F [] []
  | cons {v : V} {vs : List V} {d : Px} {ds : List Px} : Rp F v d → RpA F vs ds → RpA F (v :: vs) (d :: ds)
inductive RpW (F : Hp) : List (Key × V) → List (Px × Px) → Prop
  | nil : RpW F [] []
  | cons {k : Str} {v : V} {d : Px} {ws : List (Key × V)} {kvs : List (Px × Px)} : Rp F v d → RpW F ws kvs → RpW F ((.inr k, v) :: ws) ((.str k, d) :: kvs)
inductive RpI (F : Hp) : List (Key × V) → List (Px × Px) → Prop
  | nil : RpI F [] []
  | cons {k : Int} {v : V} {d : Px} {ws : List (Key × V)} {kvs : List (Px × Px)} : Rp F v d → RpI F ws kvs → RpI F ((.inl k, v) :: ws) ((.int k, d) :: kvs)
end
mutual
theorem Rp.mono {F G : Hp} (h : Le F G) : ∀ {v : V} {d : Px}, Rp F v d → Rp G v d
  | _, _, .non => .non
  | _, _, .bl b => .bl b
  | _, _, .int i => .int i
  | _, _, .str x => .str x
  | _, _, .lst e r => .lst (h _ _ e) (RpA.mono h r)
  | _, _, .tup e r => .tup (e.mono h) (RpA.mono h r)
  | _, _, .fn e => .fn e
  | _, _, .dct e r => .dct (h _ _ e) (RpW.mono h r)
  | _, _, .dci e r => .dci (h _ _ e) (RpI.mono h r)
theorem RpA.mono {F G : Hp} (h : Le F G) : ∀ {vs : List V} {ds : List Px}, RpA F vs ds → RpA G vs ds
  | _, _, .nil => .nil
  | _, _, .cons a b => .cons (Rp.mono h a) (RpA.mono h b)
theorem RpW.mono {F G : Hp} (h : Le F G) : ∀ {ws : List (Key × V)} {ds : List (Px × Px)}, RpW F ws ds → RpW G ws ds
  | _, _, .nil => .nil
  | _, _, .cons a b => .cons (Rp.mono h a) (RpW.mono h b)
theorem RpI.mono {F G : Hp} (h : Le F G) : ∀ {ws : List (Key × V)} {ds : List (Px × Px)}, RpI F ws ds → RpI G ws ds
  | _, _, .nil => .nil
  | _, _, .cons a b => .cons (Rp.mono h a) (RpI.mono h b)
end
mutual
theorem Rp.dp {K : PySem.W.Frag} {F G : Hp} (hk : K = TabF.K) (h : Le F G) : ∀ {v : V} {d : Px}, Rp F v d → d.hasDict = false → Dp K G v d
  | _, _, .non, _ => .non
  | _, _, .bl b, _ => .bl b
  | _, _, .int i, _ => .int i
  | _, _, .str x, _ => .str x
  | _, _, .lst e r, n => .lst (SqL.of (h _ _ e)) (RpA.dp hk h r (by simpa [PyData.hasDict] using n))
  | _, _, .tup e r, n => .tup (e.sq hk h) (RpA.dp hk h r (by simpa [PyData.hasDict] using n))
  | _, _, .fn _, n => by simp [PyData.hasDict] at n
  | _, _, .dct _ _, n => by simp [PyData.hasDict] at n
  | _, _, .dci _ _, n => by simp [PyData.hasDict] at n
theorem RpA.dp {K : PySem.W.Frag} {F G : Hp} (hk : K = TabF.K) (h : Le F G) : ∀ {vs : List V} {ds : List Px}, RpA F vs ds → PyData.hasDictAll ds = false → DpAll K G vs ds
  | _, _, .nil, _ => .nil
  | _, _, .cons a b, n => by
    simp only [PyData.hasDictAll, Bool.or_eq_false_iff] at n
    exact .cons (Rp.dp hk h a n.1) (RpA.dp hk h b n.2)
end
mutual
theorem lay_nd : ∀ {d : Px}, d.canLay0 = true → d.hasDict = false
  | .none, _ => rfl
  | .bool _, _ => rfl
  | .int _, _ => rfl
  | .str _, _ => rfl
  | .list xs, h => by
    simp only [PyData.canLay0] at h
    simpa [PyData.hasDict] using layAll_nd h
  | .tuple xs, h => by
    simp only [PyData.canLay0] at h
    simpa [PyData.hasDict] using layAll_nd h
  | .dict _, h => by simp [PyData.canLay0] at h
theorem layAll_nd : ∀ {ds : List Px}, PyData.canLayAll0 ds = true → PyData.hasDictAll ds = false
  | [], _ => rfl
  | x :: xs, h => by
    simp only [PyData.canLayAll0, Bool.and_eq_true] at h
    simp only [PyData.hasDictAll, lay_nd h.1, layAll_nd h.2, Bool.or_self]
end
theorem sh_nd {d : Px} (h : SeqAt.shaped d = true) : d.hasDict = false := by
  simp only [SeqAt.shaped, Bool.and_eq_true] at h
  exact lay_nd h.1
theorem RpA.length {F : Hp} : ∀ {vs : List V} {ds : List Px}, RpA F vs ds → vs.length = ds.length
  | _, _, .nil => rfl
  | _, _, .cons _ b => congrArg (· + 1) (RpA.length b)
theorem RpA.append {F : Hp} : ∀ {vs ws : List V} {ds es : List Px}, RpA F vs ds → RpA F ws es → RpA F (vs ++ ws) (ds ++ es)
  | _, _, _, _, .nil, s => s
  | _, _, _, _, .cons a b, s => .cons a (RpA.append b s)
theorem RpA.get {F : Hp} : ∀ {vs : List V} {ds : List Px} {i : Nat} {d : Px}, RpA F vs ds → ds[i]? = some d → ∃ v, vs[i]? = some v ∧ Rp F v d
  | _, _, _, _, .nil, h => by simp at h
  | _, _, 0, _, .cons a _, h => by simp at h; subst h; exact ⟨_, rfl, a⟩
  | _, _, i + 1, _, .cons _ b, h => by
    obtain ⟨v, e, r⟩ := RpA.get (i := i) b (by simpa using h)
    exact ⟨v, by simpa using e, r⟩
theorem RpA.getV {F : Hp} {vs : List V} {ds : List Px} {i : Nat} {v : V} (r : RpA F vs ds) (h : vs[i]? = some v) : ∃ d, ds[i]? = some d ∧ Rp F v d := by
  have hl := r.length
  have hi : i < vs.length := (List.getElem?_eq_some_iff.mp h).1
  obtain ⟨w, e, q⟩ := r.get (i := i) (d := ds[i]'(by omega)) (by simp)
  rw [h] at e; cases e
  exact ⟨_, by simp, q⟩
theorem RpA.take {F : Hp} : ∀ {vs : List V} {ds : List Px} (n : Nat), RpA F vs ds → RpA F (vs.take n) (ds.take n)
  | _, _, 0, _ => by simpa using RpA.nil
  | _, _, _ + 1, .nil => by simpa using RpA.nil
  | _, _, n + 1, .cons a b => .cons a (RpA.take n b)
theorem RpA.drop {F : Hp} : ∀ {vs : List V} {ds : List Px} (n : Nat), RpA F vs ds → RpA F (vs.drop n) (ds.drop n)
  | _, _, 0, r => r
  | _, _, _ + 1, .nil => .nil
  | _, _, n + 1, .cons _ b => RpA.drop n b
theorem RpA.set {F : Hp} {v : V} {d : Px} (r : Rp F v d) : ∀ {vs : List V} {ds : List Px} (i : Nat), RpA F vs ds → RpA F (vs.set i v) (ds.set i d)
  | _, _, _, .nil => .nil
  | _, _, 0, .cons _ t => .cons r t
  | _, _, i + 1, .cons q t => .cons q (RpA.set r i t)
theorem RpA.dropLast {F : Hp} {vs : List V} {ds : List Px} (r : RpA F vs ds) : RpA F vs.dropLast ds.dropLast := by
  rw [List.dropLast_eq_take, List.dropLast_eq_take, r.length]
  exact r.take _
theorem RpA.one {F : Hp} {v : V} {d : Px} (r : Rp F v d) : RpA F [v] [d] := .cons r .nil
theorem RpA.map_int {F : Hp} : ∀ (ns : List Int), RpA F (ns.map V.int) (ns.map .int)
  | [] => .nil
  | n :: ns => .cons (.int n) (RpA.map_int ns)
/-! ### dicts: keys ints, or tuples of ints and texts -/
inductive RpK (F : Hp) : List (Key × V) → List (Int × Px) → Prop
  | nil : RpK F [] []
  | cons {k : Int} {v : V} {d : Px} {ws : List (Key × V)} {kvs : List (Int × Px)} : Rp F v d → RpK F ws kvs → RpK F ((.inl k, v) :: ws) ((k, d) :: kvs)
inductive RpT (F : Hp) : List (List Key × V) → List (List Key × Px) → Prop
  | nil : RpT F [] []
  | cons {k : List Key} {v : V} {d : Px} {ws : List (List Key × V)} {kvs : List (List Key × Px)} : Rp F v d → RpT F ws kvs → RpT F ((k, v) :: ws) ((k, d) :: kvs)
theorem RpK.mono {F G : Hp} (h : Le F G) : ∀ {ws : List (Key × V)} {kvs : List (Int × Px)}, RpK F ws kvs → RpK G ws kvs
  | _, _, .nil => .nil
  | _, _, .cons a b => .cons (Rp.mono h a) (RpK.mono h b)
theorem RpT.mono {F G : Hp} (h : Le F G) : ∀ {ws : List (List Key × V)} {kvs : List (List Key × Px)}, RpT F ws kvs → RpT G ws kvs
  | _, _, .nil => .nil
  | _, _, .cons a b => .cons (Rp.mono h a) (RpT.mono h b)
inductive Dic where
  | k (kvs : List (Int × Px))
  | t (kvs : List (List Key × Px))
def DicR (F : Hp) : Dic → HO → Prop
  | .k kvs, o => ∃ ws, o = .dK ws ∧ RpK F ws kvs
  | .t kvs, o => ∃ ws, o = .dT ws ∧ RpT F ws kvs
theorem DicR.mono {F G : Hp} (h : Le F G) {D : Dic} {o : HO} (r : DicR F D o) : DicR G D o := by
  cases D with
  | k kvs => obtain ⟨ws, e, r⟩ := r; exact ⟨ws, e, r.mono h⟩
  | t kvs => obtain ⟨ws, e, r⟩ := r; exact ⟨ws, e, r.mono h⟩
theorem DicR.ntbl {F : Hp} {D : Dic} {o : HO} (r : DicR F D o) (ps : Array Value) : o ≠ .tbl ps := by
  cases D with
  | k kvs => obtain ⟨ws, e, r⟩ := r; rw [e]; exact fun z => nomatch z
  | t kvs => obtain ⟨ws, e, r⟩ := r; rw [e]; exact fun z => nomatch z
theorem DicR.ngen {F : Hp} {D : Dic} {o : HO} (r : DicR F D o) (v : V) (ws : List (Key × V)) : o ≠ .dK ((.inr "left", v) :: ws) := by
  cases D with
  | k kvs =>
    obtain ⟨us, e, r⟩ := r
    rw [e]
    intro z
    cases z
    cases r
  | t kvs => obtain ⟨us, e, r⟩ := r; rw [e]; exact fun z => nomatch z
/-! ### slots and configurations -/
/-- what a name or an expression holds: data; a list that nothing else holds; the drawing state -/
inductive Rv where
  | d (x : Px)
  | own (xs : List Px)
  | gen
  | scr (ns : List Int)
  | dic (D : Dic)
/-- what no two names hold together -/
def Rv.mu : Rv → Prop
  | .own _ => True
  | .dic _ => True
  | _ => False
@[simp] theorem mu_d {x : Px} : (Rv.d x).mu = False := rfl
@[simp] theorem mu_gen : Rv.gen.mu = False := rfl
@[simp] theorem mu_scr {ns : List Int} : (Rv.scr ns).mu = False := rfl
@[simp] theorem mu_own {xs : List Px} : (Rv.own xs).mu = True := rfl
@[simp] theorem mu_dic {D : Dic} : (Rv.dic D).mu = True := rfl
structure Cf where
  env : List (Option Rv)
  g : Option Nat
/-- an exception, by its class's name and its fields -/
structure Xn where
  cls : Str
  fields : List (Str × Px)
/-- the drawing state at am: so many draws at most -/
def GenAt (F H : Hp) (am : Addr) (n : Nat) : Prop :=
  ∃ (left seed spot : Int) (ac : Addr) (ns : List Int), H am = some (.dK [(.inr "left", .int left), (.inr "seed", .int seed), (.inr "cells", .ref ac), (.inr "spot", .int spot)]) ∧
    F ac = some (.lst (ns.map V.int)) ∧ ns ≠ [] ∧ ns.length ≤ 1000 ∧ 0 ≤ left ∧ 0 ≤ seed ∧ seed < 2147483647 ∧ 0 ≤ spot ∧ spot ≤ n ∧ n ≤ 2 ^ 40
structure Dx where
  K : PySem.W.Frag
  a0 : Option Addr
  F0 : Hp
  H0 : Hp
  XE : Xn → Option Nat → Addr → Hp → Hp → Prop
/-- a slot's content, over F and H -/
def Sl (Δ : Dx) (am : Addr) (F H : Hp) : Rv → V → Prop
  | .d x, v => Rp F v x
  | .own xs, v => ∃ a vs, v = .ref a ∧ H a = some (.lst vs) ∧ F a = none ∧ Δ.H0 a = none ∧ RpA F vs xs
  | .gen, v => v = .ref am
  | .scr ns, v => ∃ a, v = .ref a ∧ SqL Δ.K F a (ns.map V.int)
  | .dic D, v => ∃ a o, v = .ref a ∧ H a = some o ∧ F a = none ∧ Δ.H0 a = none ∧ DicR F D o
theorem sq_le {K : PySem.W.Frag} {F G : Hp} {a : Addr} {xs : List V} (l : Le F G) (h : SqL K F a xs) : SqL K G a xs := Same.seq (fun b o e => l b o e) h
def Dx.T (Δ : Dx) : List (Addr × Str) := TabF.T Δ.K
/-- no table stands there -/
def NoT (F : Hp) : Prop := ∀ a ps, F a ≠ some (.tbl ps)
/-- the same without its tables -/
def unT (H : Hp) : Hp := fun a => match H a with
  | some (.tbl _) => none
  | o => o
theorem unT_not (H : Hp) : NoT (unT H) := fun a ps z => by
  unfold unT at z
  split at z
  · cases z
  · rename_i h
    exact h _ z
theorem unT_of {H : Hp} {a : Addr} {o : HO} (h : unT H a = some o) : H a = some o := by
  unfold unT at h
  split at h
  · cases h
  · exact h
theorem unT_to {H : Hp} {a : Addr} {o : HO} (h : H a = some o) (n : ∀ ps, o ≠ .tbl ps) : unT H a = some o := by
  unfold unT
  split
  · rename_i ps e
    rw [h] at e
    exact absurd (Option.some.inj e) (n ps)
  · exact h
theorem unT_none {H : Hp} {a : Addr} (h : unT H a = none) : H a = none ∨ ∃ ps, H a = some (.tbl ps) := by
  unfold unT at h
  split at h
  · rename_i ps e
    exact .inr ⟨ps, e⟩
  · exact .inl h
theorem NoT.upd {F : Hp} {a : Addr} {o : HO} (t : NoT F) (h : ∀ ps, o ≠ .tbl ps) : NoT (L2.upd F a o) := fun b ps z => by
  by_cases q : b = a
  · rw [q, upd_same] at z
    exact h ps (Option.some.inj z)
  · rw [upd_ne q] at z
    exact t b ps z
/-- at a def's entry -/
def Tb0 (K : PySem.W.Frag) (F H : Hp) : Prop := (∀ p ∈ TabF.T K, LamX.TabS H p.1 p.2) ∧ NoT F
def Tb (Δ : Dx) (F H : Hp) : Prop := (∀ p ∈ Δ.T, LamX.TabS H p.1 p.2) ∧ NoT F ∧ NoT Δ.H0
/-- tables stay where neither a table nor a code object changes -/
theorem tabs_upd {H : Hp} {P a : Addr} {q : Str} {o : HO} (t : LamX.TabS H P q) (h : ∀ u, H a = some u → (∀ ps, u ≠ .tbl ps) ∧ ∀ c q, u ≠ LamX.CodeO c q) : LamX.TabS (upd H a o) P q := by
  obtain ⟨ps, h1, h2, h3⟩ := t
  have n1 : P ≠ a := by
    rintro rfl
    exact (h _ h1).1 ps rfl
  refine ⟨ps, by rw [upd_ne n1]; exact h1, h2, fun pos cv hc => ?_⟩
  obtain ⟨c, e1, e2⟩ := h3 pos cv hc
  have n2 : c ≠ a := by
    rintro rfl
    exact (h _ e2).2 c q rfl
  exact ⟨c, e1, by rw [upd_ne n2]; exact e2⟩
theorem lst_ok {vs : List V} : (∀ ps, (HO.lst vs) ≠ .tbl ps) ∧ ∀ c q, (HO.lst vs) ≠ LamX.CodeO c q := ⟨fun ps z => (nomatch z), fun c q z => by
  unfold LamX.CodeO at z
  cases z⟩
theorem dK_ok {ws : List (Key × V)} : (∀ ps, (HO.dK ws) ≠ .tbl ps) ∧ ∀ c q, (HO.dK ws) ≠ LamX.CodeO c q := ⟨fun ps z => (nomatch z), fun c q z => by
  unfold LamX.CodeO at z
  cases z⟩
theorem Tb.upd {Δ : Dx} {F H : Hp} {a : Addr} {o : HO} (t : Tb Δ F H) (h : ∀ u, H a = some u → (∀ ps, u ≠ .tbl ps) ∧ ∀ c q, u ≠ LamX.CodeO c q) : Tb Δ F (L2.upd H a o) := ⟨fun p hp => tabs_upd (t.1 p hp) h, t.2⟩
theorem Tb.new {Δ : Dx} {F H : Hp} {a : Addr} {o : HO} (t : Tb Δ F H) (h : H a = none) : Tb Δ F (L2.upd H a o) := t.upd fun u e => by rw [h] at e; cases e
theorem Tb.lst {Δ : Dx} {F H : Hp} {a : Addr} {o : HO} {vs : List V} (t : Tb Δ F H) (h : H a = some (.lst vs)) : Tb Δ F (L2.upd H a o) := t.upd fun u e => by rw [h] at e; cases e; exact lst_ok
theorem Tb.dK {Δ : Dx} {F H : Hp} {a : Addr} {o : HO} {ws : List (Key × V)} (t : Tb Δ F H) (h : H a = some (.dK ws)) : Tb Δ F (L2.upd H a o) := t.upd fun u e => by rw [h] at e; cases e; exact dK_ok
/-- something stands there, no table -/
def Lv (H : Hp) (a : Addr) : Prop := ∃ o, H a = some o ∧ ∀ ps, o ≠ .tbl ps
theorem Lv.some {H : Hp} {a : Addr} (l : Lv H a) : H a ≠ none := by
  obtain ⟨o, e, _⟩ := l
  rw [e]
  exact fun z => nomatch z
theorem Lv.un {H : Hp} {a : Addr} (l : Lv H a) : unT H a ≠ none := by
  obtain ⟨o, e, n⟩ := l
  rw [unT_to e n]
  exact fun z => nomatch z
theorem Lv.upd {H : Hp} {a p : Addr} {o : HO} (l : Lv H a) (n : ∀ ps, o ≠ .tbl ps) : Lv (L2.upd H p o) a := by
  by_cases q : a = p
  · rw [q]
    exact ⟨o, upd_same, n⟩
  · obtain ⟨u, e, m⟩ := l
    exact ⟨u, by rw [upd_ne q]; exact e, m⟩
structure Ok (Δ : Dx) (am : Addr) (F : Hp) (σ : St) (H : Hp) (c : Cf) : Prop where
  fh : Le F H
  f0 : Le Δ.F0 F
  fr : ∀ a, F a ≠ none → Δ.F0 a ≠ none ∨ Δ.H0 a = none
  tb : Tb Δ F H
  pr : ∀ a o, Δ.H0 a = some o → Δ.a0 ≠ some a → H a = some o
  al : ∀ a, Δ.a0 = some a → Lv H a ∧ Δ.H0 a ≠ none
  gn : ∀ n, c.g = some n → (Δ.a0 = some am ∨ (Δ.a0 = none ∧ Δ.H0 am = none)) ∧ F am = none ∧ GenAt F H am n
  len : σ.length = c.env.length
  sv : ∀ (i : Nat) (r : Rv), c.env[i]? = some (some r) → ∃ v, σ[i]? = some (some v) ∧ Sl Δ am F H r v
  di : ∀ (i j : Nat) (r r' : Rv), i ≠ j → c.env[i]? = some (some r) → c.env[j]? = some (some r') → r.mu → r'.mu → σ[i]? ≠ σ[j]?
theorem Sl.at {Δ : Dx} {am : Addr} {F H : Hp} {r : Rv} {v : V} (s : Sl Δ am F H r v) (h : r.mu) : ∃ a o, v = .ref a ∧ H a = some o ∧ F a = none ∧ Δ.H0 a = none := by
  cases r with
  | d x => exact h.elim
  | gen => exact h.elim
  | scr ns => exact h.elim
  | own xs =>
    obtain ⟨a, vs, e1, e2, e3, e4, _⟩ := s
    exact ⟨a, _, e1, e2, e3, e4⟩
  | dic D =>
    obtain ⟨a, o, e1, e2, e3, e4, _⟩ := s
    exact ⟨a, _, e1, e2, e3, e4⟩
theorem Sl.atN {Δ : Dx} {am : Addr} {F H : Hp} {r : Rv} {v : V} (s : Sl Δ am F H r v) (h : r.mu) : ∃ a o, v = .ref a ∧ H a = some o ∧ ∀ ps, o ≠ .tbl ps := by
  cases r with
  | d x => exact h.elim
  | gen => exact h.elim
  | scr ns => exact h.elim
  | own xs =>
    obtain ⟨a, vs, e1, e2, _⟩ := s
    exact ⟨a, _, e1, e2, lst_ok.1⟩
  | dic D =>
    obtain ⟨a, o, e1, e2, _, _, e5⟩ := s
    exact ⟨a, _, e1, e2, e5.ntbl⟩
/-- an expression's result -/
def Rs (Δ : Dx) (am : Addr) (F : Hp) (σ : St) (H : Hp) (c : Cf) (r : Rv) (v : V) : Prop :=
  Sl Δ am F H r v ∧ (r.mu → ∀ (i : Nat) (r' : Rv), c.env[i]? = some (some r') → r'.mu → σ[i]? ≠ some (some v))
/-- behind an exception, or at a def's end -/
structure Fin (Δ : Dx) (am : Addr) (F H : Hp) (g : Option Nat) : Prop where
  fh : Le F H
  f0 : Le Δ.F0 F
  fr : ∀ a, F a ≠ none → Δ.F0 a ≠ none ∨ Δ.H0 a = none
  tb : Tb Δ F H
  pr : ∀ a o, Δ.H0 a = some o → Δ.a0 ≠ some a → H a = some o
  al : ∀ a, Δ.a0 = some a → Lv H a ∧ Δ.H0 a ≠ none
  gn : ∀ n, g = some n → (Δ.a0 = some am ∨ (Δ.a0 = none ∧ Δ.H0 am = none)) ∧ F am = none ∧ GenAt F H am n
section
variable {Δ : Dx} {am : Addr} {F F' G : Hp} {σ : St} {H H' : Hp} {c : Cf}
theorem Ok.tbs {K : PySem.W.Frag} (k : Ok Δ am F σ H c) (hK : Δ.K = K) : Tb0 K F H := by
  subst hK
  exact ⟨k.tb.1, k.tb.2.1⟩
theorem Ok.fin (k : Ok Δ am F σ H c) : Fin Δ am F H c.g := ⟨k.fh, k.f0, k.fr, k.tb, k.pr, k.al, k.gn⟩
theorem GenAt.ne {n : Nat} {a : Addr} {vs : List V} (g : GenAt F H am n) (h : H a = some (.lst vs)) : a ≠ am := by
  obtain ⟨_, _, _, _, _, e, _⟩ := g
  rintro rfl
  rw [h] at e; cases e
theorem GenAt.neD {n : Nat} {a : Addr} {D : Dic} {o : HO} (g : GenAt F H am n) (h : H a = some o) (r : DicR F D o) : a ≠ am := by
  obtain ⟨_, _, _, _, _, e, _⟩ := g
  rintro rfl
  rw [h] at e
  exact r.ngen _ _ (Option.some.inj e)
theorem GenAt.sm {n : Nat} (g : GenAt F H am n) : H am ≠ none := by
  obtain ⟨_, _, _, _, _, e, _⟩ := g
  rw [e]; exact fun z => nomatch z
/-- nothing that stood at the entry stands at a free address -/
theorem Ok.new (k : Ok Δ am F σ H c) {p : Addr} (hp : H p = none) : Δ.H0 p = none := by
  cases q : Δ.H0 p with
  | none => rfl
  | some o =>
    by_cases e : Δ.a0 = some p
    · exact absurd hp (k.al p e).1.some
    · rw [k.pr p o q e] at hp; cases hp
theorem Ok.ngen (k : Ok Δ am F σ H c) {n : Nat} (e : c.g = some n) {p : Addr} (hp : H p = none) : p ≠ am := by
  rintro rfl
  exact (k.gn n e).2.2.sm hp
/-- a new object -/
theorem Ok.alloc (k : Ok Δ am F σ H c) {p : Addr} (hp : H p = none) (o : HO) : Ok Δ am F σ (upd H p o) c where
  fh := k.fh.trans (Le.up hp)
  f0 := k.f0
  fr := k.fr
  tb := k.tb.new hp
  pr := fun a u e n => Le.up hp a u (k.pr a u e n)
  al := fun a e => by
    obtain ⟨⟨u, h1, h2⟩, h3⟩ := k.al a e
    exact ⟨⟨u, Le.up hp _ _ h1, h2⟩, h3⟩
  gn := fun n e => by
    obtain ⟨h1, h2, l, s, sp, ac, ns, h3, h4⟩ := k.gn n e
    exact ⟨h1, h2, l, s, sp, ac, ns, Le.up hp _ _ h3, h4⟩
  len := k.len
  sv := fun i r e => by
    obtain ⟨v, h1, h2⟩ := k.sv i r e
    refine ⟨v, h1, ?_⟩
    cases r with
    | d x => exact h2
    | gen => exact h2
    | scr ns => exact h2
    | own xs =>
      obtain ⟨a, vs, e1, e2, e3⟩ := h2
      exact ⟨a, vs, e1, Le.up hp _ _ e2, e3⟩
    | dic D =>
      obtain ⟨a, vs, e1, e2, e3⟩ := h2
      exact ⟨a, vs, e1, Le.up hp _ _ e2, e3⟩
  di := k.di
/-- more that stays as it is: at a free address of F -/
theorem Ok.stay (k : Ok Δ am F σ H c) (nt : NoT G) (l : Le F G) (gh : Le G H) (fr : ∀ a, G a ≠ none → F a ≠ none ∨ Δ.H0 a = none) (ng : ∀ n, c.g = some n → G am = none)
    (no : ∀ (i : Nat) (r : Rv) (a : Addr), c.env[i]? = some (some r) → r.mu → σ[i]? = some (some (.ref a)) → G a = none) : Ok Δ am G σ H c where
  fh := gh
  f0 := k.f0.trans l
  fr := fun a h => (fr a h).elim (fun z => k.fr a z) .inr
  tb := ⟨k.tb.1, nt, k.tb.2.2⟩
  pr := k.pr
  al := k.al
  gn := fun n e => by
    obtain ⟨h1, h2, left, s, sp, ac, ns, h3, h4, h5⟩ := k.gn n e
    exact ⟨h1, ng n e, left, s, sp, ac, ns, h3, l _ _ h4, h5⟩
  len := k.len
  sv := fun i r e => by
    obtain ⟨v, h1, h2⟩ := k.sv i r e
    refine ⟨v, h1, ?_⟩
    cases r with
    | d x => exact Rp.mono l h2
    | gen => exact h2
    | scr ns =>
      obtain ⟨a, e1, e2⟩ := h2
      exact ⟨a, e1, sq_le l e2⟩
    | own xs =>
      obtain ⟨a, vs, e1, e2, e3, e4, e5⟩ := h2
      subst e1
      exact ⟨a, vs, rfl, e2, no i _ a e True.intro h1, e4, e5.mono l⟩
    | dic D =>
      obtain ⟨a, vs, e1, e2, e3, e4, e5⟩ := h2
      subst e1
      exact ⟨a, vs, rfl, e2, no i _ a e True.intro h1, e4, e5.mono l⟩
  di := k.di
/-- an own list, named no more, becomes data -/
theorem Ok.frz (k : Ok Δ am F σ H c) {a : Addr} {vs : List V} (h : H a = some (.lst vs)) (h0 : Δ.H0 a = none) (hf : F a = none) (no : ∀ (i : Nat) (r : Rv), c.env[i]? = some (some r) → r.mu → σ[i]? ≠ some (some (.ref a))) :
    Ok Δ am (upd F a (.lst vs)) σ H c ∧ Le F (upd F a (.lst vs)) := by
  refine ⟨k.stay (k.tb.2.1.upd lst_ok.1) (Le.up hf) ?_ ?_ ?_ ?_, Le.up hf⟩
  · intro b o e
    by_cases q : b = a
    · subst q; rw [upd_same] at e; rw [h]; exact e
    · rw [upd_ne q] at e; exact k.fh b o e
  · intro b e
    by_cases q : b = a
    · subst q; exact .inr h0
    · rw [upd_ne q] at e; exact .inl e
  · intro n e
    have ne : am ≠ a := ((k.gn n e).2.2.ne h).symm
    rw [upd_ne ne]
    exact (k.gn n e).2.1
  · intro i r b e1 mu e2
    have ne : b ≠ a := by
      rintro rfl
      exact no i r e1 mu e2
    rw [upd_ne ne]
    obtain ⟨v, e3, e4⟩ := k.sv i _ e1
    rw [e2] at e3
    cases e3
    cases r with
    | own xs =>
      obtain ⟨a', vs', e5, e6, e7, _⟩ := e4
      cases e5
      exact e7
    | dic D =>
      obtain ⟨a', vs', e5, e6, e7, _⟩ := e4
      cases e5
      exact e7
    | d x => exact mu.elim
    | gen => exact mu.elim
    | scr ns => exact mu.elim
/-- a result as data -/
def asD (r : Rv) (k : Px → Prop) : Prop := match r with
  | .d x => k x
  | .own xs => k (.list xs)
  | .gen => False
  | .scr _ => False
  | .dic _ => False
theorem Rs.data {r : Rv} {v : V} {k : Px → Prop} (o : Ok Δ am F σ H c) (h : Rs Δ am F σ H c r v) (q : asD r k) : ∃ x F', k x ∧ Le F F' ∧ Ok Δ am F' σ H c ∧ Rp F' v x := by
  cases r with
  | d x => exact ⟨x, F, q, Le.refl F, o, h.1⟩
  | gen => exact q.elim
  | scr ns => exact q.elim
  | dic D => exact q.elim
  | own xs =>
    obtain ⟨⟨a, vs, e1, e2, e3, e4, e5⟩, e6⟩ := h
    subst e1
    obtain ⟨o', l⟩ := o.frz e2 e4 e3 fun i r e mu => e6 True.intro i r e mu
    exact ⟨_, _, q, l, o', .lst upd_same (e5.mono l)⟩
end
end Dl
set_option Elab.async false
set_option maxRecDepth 100000
set_option linter.all false
set_option autoImplicit false
namespace Dl
open PySem L2
variable [TabF]
/-! ### what is wanted, over data -/
abbrev XP := Xn → Option Nat → Prop
abbrev WE := Cf → (Rv → Cf → Prop) → XP → Prop
abbrev WT := Cf → (Bool → Cf → Prop) → XP → Prop
abbrev WA := Cf → (List Rv → Cf → Prop) → XP → Prop
abbrev WI := Cf → (List Px → Cf → Prop) → XP → Prop
abbrev WG := Rv → Cf → (Cf → Prop) → Prop
inductive Fl where
  | nx (c : Cf)
  | rt (r : Rv) (g : Option Nat)
  | bk (c : Cf)
  | ct (c : Cf)
abbrev WS := Cf → (Fl → Prop) → XP → Prop
def KX (Δ : Dx) (am : Addr) (F : Hp) (X : XP) : Prop := ∀ x g F' H', X x g → Le F F' → Fin Δ am F' H' g → Δ.XE x g am F' H'
theorem KX.le {Δ : Dx} {am : Addr} {F G : Hp} {X : XP} (k : KX Δ am F X) (l : Le F G) : KX Δ am G X := fun x g F' H' h l' f => k x g F' H' h (l.trans l') f
def KQ (Δ : Dx) (am : Addr) (F : Hp) (σ : St) (P : Rv → Cf → Prop) (Q : VK) : Prop :=
  ∀ r c' F' v H', P r c' → Le F F' → Ok Δ am F' σ H' c' → Rs Δ am F' σ H' c' r v → Q v H'
def tE (Δ : Dx) (f : WE) : TE := fun σ H Q => ∃ am F c P X, Ok Δ am F σ H c ∧ f c P X ∧ KQ Δ am F σ P Q ∧ KX Δ am F X
def tT (Δ : Dx) (f : WT) : TT := fun σ H Q => ∃ am F c P X, Ok Δ am F σ H c ∧ f c P X ∧
  (∀ b c' F' H', P b c' → Le F F' → Ok Δ am F' σ H' c' → Q b H') ∧ KX Δ am F X
/-- the values of arguments (own lists are data here) -/
inductive Rss (Δ : Dx) (am : Addr) (F : Hp) : List Rv → List V → Prop
  | nil : Rss Δ am F [] []
  | d {x : Px} {v : V} {rs : List Rv} {vs : List V} : Rp F v x → Rss Δ am F rs vs → Rss Δ am F (.d x :: rs) (v :: vs)
  | gen {rs : List Rv} {vs : List V} : Rss Δ am F rs vs → Rss Δ am F (.gen :: rs) (.ref am :: vs)
  | scr {a : Addr} {ns : List Int} {rs : List Rv} {vs : List V} : SqL Δ.K F a (ns.map V.int) → Rss Δ am F rs vs → Rss Δ am F (.scr ns :: rs) (.ref a :: vs)
theorem Rss.mono {Δ : Dx} {am : Addr} {F G : Hp} (l : Le F G) : ∀ {rs : List Rv} {vs : List V}, Rss Δ am F rs vs → Rss Δ am G rs vs
  | _, _, .nil => .nil
  | _, _, .d h r => .d (h.mono l) (r.mono l)
  | _, _, .gen r => .gen (r.mono l)
  | _, _, .scr h r => .scr (sq_le l h) (r.mono l)
def tA (Δ : Dx) (f : WA) : TA := fun σ H Q => ∃ am F c P X, Ok Δ am F σ H c ∧ f c P X ∧
  (∀ rs c' F' vs H', P rs c' → Le F F' → Ok Δ am F' σ H' c' → Rss Δ am F' rs vs → Q vs H') ∧ KX Δ am F X
/-- the slots but those in ws are as they were -/
def Tch (ws : List Nat) (σ σ' : St) : Prop := σ'.length = σ.length ∧ ∀ i : Nat, i ∉ ws → σ'[i]? = σ[i]?
def tG (Δ : Dx) (ws : List Nat) (f : WG) : TG := fun v σ H Q => ∃ am F c r P, Ok Δ am F σ H c ∧ Rs Δ am F σ H c r v ∧ f r c P ∧
  (∀ c' F' σ' H', P c' → Le F F' → Ok Δ am F' σ' H' c' → Tch ws σ σ' → Q σ' H')
def KF (Δ : Dx) (am : Addr) (F : Hp) (P : Fl → Prop) (D : Ends) : Prop :=
  (∀ c am' F' σ' H', P (.nx c) → Le F F' → Ok Δ am' F' σ' H' c → D.nx σ' H') ∧
  (∀ c am' F' σ' H', P (.bk c) → Le F F' → Ok Δ am' F' σ' H' c → D.bk σ' H') ∧
  (∀ c am' F' σ' H', P (.ct c) → Le F F' → Ok Δ am' F' σ' H' c → D.ct σ' H') ∧
  (∀ r g am' F' H' v, P (.rt r g) → Le F F' → Fin Δ am' F' H' g → Sl Δ am' F' H' r v → D.rt v H')
def KXs (Δ : Dx) (F : Hp) (X : XP) : Prop := ∀ am, KX Δ am F X
theorem KXs.le {Δ : Dx} {F G : Hp} {X : XP} (k : KXs Δ F X) (l : Le F G) : KXs Δ G X := fun am => (k am).le l
def tS (Δ : Dx) (f : WS) : TS := fun D σ H => ∃ am F c P X, Ok Δ am F σ H c ∧ f c P X ∧ KF Δ am F P D ∧ KXs Δ F X
theorem _root_.L2.PE.imp {X : Cx} {e : Expr} {t t' : TE} (h : PE X e t) (w : ∀ σ H Q, t' σ H Q → t σ H Q) : PE X e t' :=
  ⟨fun pins s σ H Q I q => h.run pins s σ H Q I (w σ H Q q)⟩
theorem _root_.L2.PT.imp {X : Cx} {e : Expr} {t t' : TT} (h : PT X e t) (w : ∀ σ H Q, t' σ H Q → t σ H Q) : PT X e t' :=
  ⟨fun pins s σ H Q I q => h.run pins s σ H Q I (w σ H Q q)⟩
theorem _root_.L2.PA.imp {X : Cx} {e : List Expr} {t t' : TA} (h : PA X e t) (w : ∀ σ H Q, t' σ H Q → t σ H Q) : PA X e t' :=
  ⟨fun pos pins s σ H Q I q => h.run pos pins s σ H Q I (w σ H Q q)⟩
theorem _root_.L2.PS.imp {X : Cx} {e : Stmt} {t t' : TS} (h : PS X e t) (w : ∀ D σ H, t' D σ H → t D σ H) : PS X e t' :=
  ⟨fun pins s σ H D I q => h.run pins s σ H D I (w D σ H q)⟩
theorem _root_.L2.PSs.imp {X : Cx} {e : List Stmt} {t t' : TS} (h : PSs X e t) (w : ∀ D σ H, t' D σ H → t D σ H) : PSs X e t' :=
  ⟨fun pins s σ H D I q => h.run pins s σ H D I (w D σ H q)⟩
theorem _root_.L2.PG.imp {X : Cx} {e : Expr} {t t' : TG} (h : PG X e t) (w : ∀ v σ H Q, t' v σ H Q → t v σ H Q) : PG X e t' :=
  ⟨fun pins s σ H v u Q I r q => h.run pins s σ H v u Q I r (w v σ H Q q)⟩
theorem _root_.L2.PI.imp {X : Cx} {tg e : Expr} {t t' : TI} (h : PI X tg e t) (w : ∀ σ H Q, t' σ H Q → t σ H Q) : PI X tg e t' :=
  ⟨fun pins s σ H Q I q => h.run pins s σ H Q I (w σ H Q q)⟩
section
variable {X : Cx} {Δ : Dx} {a b e : Expr} {fa fb fc : WE} {pos : Pos}
/-! ### names and constants -/
def eName (i : Nat) : WE := fun c P _ => match c.env[i]? with
  | some (some (.d x)) => P (.d x) c
  | some (some .gen) => P .gen c
  | some (some (.scr ns)) => P (.scr ns) c
  | some (some (.own xs)) => P (.d (.list xs)) { c with env := c.env.set i (some (.d (.list xs))) }
  | _ => False
theorem St.set_get {σ : St} {i j : Nat} (o : Option V) : (σ.set i o)[j]? = if j = i ∧ i < σ.length then some o else σ[j]? := by
  by_cases e : j = i
  · subst e
    by_cases h : j < σ.length
    · rw [List.getElem?_set_self h, if_pos ⟨rfl, h⟩]
    · rw [if_neg (fun z => h z.2), List.getElem?_eq_none (by simpa using h), List.getElem?_eq_none (by simpa using h)]
  · rw [List.getElem?_set_ne (Ne.symm e), if_neg (fun z => e z.1)]
theorem env_get {l : List (Option Rv)} {i j : Nat} (o : Option Rv) : (l.set i o)[j]? = if j = i ∧ i < l.length then some o else l[j]? := by
  by_cases e : j = i
  · subst e
    by_cases h : j < l.length
    · rw [List.getElem?_set_self h, if_pos ⟨rfl, h⟩]
    · rw [if_neg (fun z => h z.2), List.getElem?_eq_none (by simpa using h), List.getElem?_eq_none (by simpa using h)]
  · rw [List.getElem?_set_ne (Ne.symm e), if_neg (fun z => e z.1)]
/-- the slot's list is given away: it stays as it is from now on -/
theorem Ok.give {am : Addr} {F : Hp} {σ : St} {H : Hp} {c : Cf} (k : Ok Δ am F σ H c) {i : Nat} {xs : List Px} (h : c.env[i]? = some (some (.own xs))) :
    ∃ v F', σ[i]? = some (some v) ∧ Le F F' ∧ Ok Δ am F' σ H { c with env := c.env.set i (some (.d (.list xs))) } ∧ Rp F' v (.list xs) := by
  obtain ⟨v, h1, a, vs, e1, e2, e3, e4, e5⟩ := k.sv i _ h
  subst e1
  have hi : i < c.env.length := (List.getElem?_eq_some_iff.mp h).1
  -- the configuration with the slot forgotten
  have k1 : Ok Δ am F σ H { c with env := c.env.set i none } := ⟨k.fh, k.f0, k.fr, k.tb, k.pr, k.al, k.gn, by simpa using k.len, fun j r e => by
      rw [env_get] at e
      split at e
      · cases e
      · exact k.sv j r e, fun j l ys zs n p q => by
      rw [env_get] at p q
      split at p
      · cases p
      · split at q
        · cases q
        · exact k.di j l ys zs n p q⟩
  obtain ⟨k2, l⟩ := k1.frz e2 e4 e3 fun j ys e mu => by
    rw [env_get] at e
    split at e
    · cases e
    · rename_i n
      intro z
      exact k.di j i ys _ (fun q => n ⟨q, hi⟩) e h mu True.intro (z.trans h1.symm)
  have rp : Rp (upd F a (.lst vs)) (.ref a) (.list xs) := .lst upd_same (e5.mono l)
  refine ⟨_, _, h1, l, ?_, rp⟩
  refine ⟨k2.fh, k2.f0, k2.fr, k2.tb, k2.pr, k2.al, k2.gn, by simpa using k.len, fun j r e => ?_, fun j l ys zs n p q => ?_⟩
  · rw [env_get] at e
    split at e
    · rename_i z
      cases e
      rw [z.1]
      exact ⟨_, h1, rp⟩
    · exact k2.sv j r (by rw [env_get, if_neg (by assumption)]; exact e)
  · rw [env_get] at p q
    split at p
    · cases p
      exact fun z => z.elim
    · split at q
      · cases q
        exact fun _ z => z.elim
      · exact k.di j l ys zs n p q
theorem de_name (i : Nat) {x : Str} (hN : X.N[i]? = some x := by rfl) (hv : Vis X.env.scope x := by first | exact Or.inl rfl | exact Or.inr (Or.inl rfl) | exact Or.inr (Or.inr rfl)) (hd : (x == ("__debug__" : Str)) = false := by decide)
    (hcd : (x == ("__classdict__" : Str)) = false := by decide) : PE X (.Name x pos) (tE Δ (eName i)) := by
  refine (pv i hN hv hd hcd).imp fun σ H Q ⟨am, F, c, P, XX, ok, hf, kq, kx⟩ => ?_
  unfold eName at hf
  split at hf
  · rename_i x e
    obtain ⟨v, h1, h2⟩ := ok.sv i _ e
    exact ⟨v, h1, kq _ c F v H hf (Le.refl F) ok ⟨h2, fun z => z.elim⟩⟩
  · rename_i e
    obtain ⟨v, h1, h2⟩ := ok.sv i _ e
    exact ⟨v, h1, kq _ c F v H hf (Le.refl F) ok ⟨h2, fun z => z.elim⟩⟩
  · rename_i ns e
    obtain ⟨v, h1, h2⟩ := ok.sv i _ e
    exact ⟨v, h1, kq _ c F v H hf (Le.refl F) ok ⟨h2, fun z => z.elim⟩⟩
  · rename_i xs e
    obtain ⟨v, F', h1, l, k, r⟩ := ok.give e
    exact ⟨v, h1, kq _ _ F' v H hf l k ⟨r, fun z => z.elim⟩⟩
  · exact hf.elim
def eC (x : Px) : WE := fun c P _ => P (.d x) c
theorem de_int {i : Int} {k : Nat} : PE X (.Constant (.int i) k pos) (tE Δ (eC (.int i))) :=
  L2.PE.imp pe_int fun σ H Q ⟨am, F, c, P, XX, ok, hf, kq, kx⟩ => kq _ c F _ H hf (Le.refl F) ok ⟨.int i, fun z => z.elim⟩
theorem de_str {s : Str} {k : Nat} : PE X (.Constant (.str s) k pos) (tE Δ (eC (.str s))) :=
  L2.PE.imp pe_str fun σ H Q ⟨am, F, c, P, XX, ok, hf, kq, kx⟩ => kq _ c F _ H hf (Le.refl F) ok ⟨.str s, fun z => z.elim⟩
theorem de_bl {b : Bool} {k : Nat} : PE X (.Constant (.bool b) k pos) (tE Δ (eC (.bool b))) :=
  L2.PE.imp pe_bl fun σ H Q ⟨am, F, c, P, XX, ok, hf, kq, kx⟩ => kq _ c F _ H hf (Le.refl F) ok ⟨.bl b, fun z => z.elim⟩
/-! ### operators -/
abbrev OD := Px → Px → (Rv → Prop) → Prop
abbrev UD := Px → (Rv → Prop) → Prop
structure OpD (X : Cx) (Δ : Dx) (f : Value → Value → Sem Value) (o : OD) : Prop where
  ex : ∃ r : R2, OpR X f r ∧ ∀ (am : Addr) (F : Hp) (σ : St) (H : Hp) (c : Cf) (vx vy : V) (x y : Px) (P : Rv → Prop) (Q : VK), Ok Δ am F σ H c → Rp F vx x → Rp F vy y → o x y P →
    (∀ rr F' v H', P rr → Le F F' → Ok Δ am F' σ H' c → Rs Δ am F' σ H' c rr v → Q v H') → r vx vy H Q
def eOp (o : OD) (fa fb : WE) : WE := fun c P X => fa c (fun r1 c1 => asD r1 fun x => fb c1 (fun r2 c2 => asD r2 fun y => o x y fun r => P r c2) X) X
theorem two_of {r : R2} {o : OD} (ho : ∀ (am : Addr) (F : Hp) (σ : St) (H : Hp) (c : Cf) (vx vy : V) (x y : Px) (P : Rv → Prop) (Q : VK), Ok Δ am F σ H c → Rp F vx x → Rp F vy y → o x y P →
    (∀ rr F' v H', P rr → Le F F' → Ok Δ am F' σ H' c → Rs Δ am F' σ H' c rr v → Q v H') → r vx vy H Q) (σ : St) (H : Hp) (Q : VK) (h : tE Δ (eOp o fa fb) σ H Q) : tOp r (tE Δ fa) (tE Δ fb) σ H Q := by
  obtain ⟨am, F, c, P, XX, ok, hf, kq, kx⟩ := h
  refine ⟨am, F, c, _, XX, ok, hf, fun r1 c1 F1 v1 H1 p1 l1 o1 s1 => ?_, kx⟩
  obtain ⟨x, F1', hx, l1', o1', rp1⟩ := s1.data o1 p1
  refine ⟨am, F1', c1, _, XX, o1', hx, fun r2 c2 F2 v2 H2 p2 l2 o2 s2 => ?_, kx.le (l1.trans l1')⟩
  obtain ⟨y, F2', hy, l2', o2', rp2⟩ := s2.data o2 p2
  have l3 : Le F1' F2' := l2.trans l2'
  exact ho am F2' σ H2 c2 v1 v2 x y _ Q o2' (rp1.mono l3) rp2 hy fun rr F' v H' prr l o s => kq rr c2 F' v H' prr (((l1.trans l1').trans l3).trans l) o s
theorem de_op {op : Operator} {o : OD} (ho : OpD X Δ (binaryOp op) o) (ha : PE X a (tE Δ fa)) (hb : PE X b (tE Δ fb)) : PE X (.BinOp a op b pos) (tE Δ (eOp o fa fb)) := by
  obtain ⟨r, h1, h2⟩ := ho.ex
  exact (pe_op h1 ha hb).imp fun σ H Q h => two_of h2 σ H Q h
structure UnD (X : Cx) (Δ : Dx) (f : Value → Sem Value) (o : UD) : Prop where
  ex : ∃ r : V → Hp → VK → Prop, UnR X f r ∧ ∀ (am : Addr) (F : Hp) (σ : St) (H : Hp) (c : Cf) (vx : V) (x : Px) (P : Rv → Prop) (Q : VK), Ok Δ am F σ H c → Rp F vx x → o x P →
    (∀ rr F' v H', P rr → Le F F' → Ok Δ am F' σ H' c → Rs Δ am F' σ H' c rr v → Q v H') → r vx H Q
def eUn (o : UD) (fa : WE) : WE := fun c P X => fa c (fun r1 c1 => asD r1 fun x => o x fun r => P r c1) X
theorem de_un {op : UnaryOp} {o : UD} (ho : UnD X Δ (unaryOp op) o) (ha : PE X a (tE Δ fa)) : PE X (.UnaryOp op a pos) (tE Δ (eUn o fa)) := by
  obtain ⟨r, h1, h2⟩ := ho.ex
  refine (pe_un h1 ha).imp fun σ H Q ⟨am, F, c, P, XX, ok, hf, kq, kx⟩ => ?_
  refine ⟨am, F, c, _, XX, ok, hf, fun r1 c1 F1 v1 H1 p1 l1 o1 s1 => ?_, kx⟩
  obtain ⟨x, F1', hx, l1', o1', rp1⟩ := s1.data o1 p1
  exact h2 am F1' σ H1 c1 v1 x _ Q o1' rp1 hx fun rr F' v H' prr l o s => kq rr c1 F' v H' prr ((l1.trans l1').trans l) o s
/-! the results that are plain -/
theorem Rs.of {am : Addr} {F : Hp} {σ : St} {H : Hp} {c : Cf} {v : V} {x : Px} (r : Rp F v x) : Rs Δ am F σ H c (.d x) v := ⟨r, fun z => z.elim⟩
/-- a new own list -/
theorem Rs.fresh {am : Addr} {F : Hp} {σ : St} {H : Hp} {c : Cf} (k : Ok Δ am F σ H c) {p : Addr} (hp : H p = none) {vs : List V} {xs : List Px} (r : RpA F vs xs) :
    Ok Δ am F σ (upd H p (.lst vs)) c ∧ Rs Δ am F σ (upd H p (.lst vs)) c (.own xs) (.ref p) := by
  refine ⟨k.alloc hp _, ⟨p, vs, rfl, upd_same, k.fh.nn hp, k.new hp, r⟩, fun _ i r' e mu z => ?_⟩
  obtain ⟨v, h1, s⟩ := k.sv i _ e
  obtain ⟨a, o, e1, e2, _⟩ := s.at mu
  subst e1
  rw [z] at h1
  cases h1
  rw [hp] at e2; cases e2
/-- a new tuple -/
theorem Ok.tupN {am : Addr} {F : Hp} {σ : St} {H : Hp} {c : Cf} (k : Ok Δ am F σ H c) {p : Addr} (hp : H p = none) {vs : List V} {xs : List Px} (r : RpA F vs xs) :
    Ok Δ am (upd F p (.tup vs)) σ (upd H p (.tup vs)) c ∧ Le F (upd F p (.tup vs)) ∧ Rp (upd F p (.tup vs)) (.ref p) (.tuple xs) := by
  have hf := k.fh.nn hp
  refine ⟨(k.alloc hp (.tup vs)).stay (k.tb.2.1.upd fun ps z => nomatch z) (Le.up hf) k.fh.up2 (fun b e => ?_) (fun n e => ?_) (fun i ys b e1 mu e2 => ?_), Le.up hf, .tup (.inl upd_same) (r.mono (Le.up hf))⟩
  · by_cases q : b = p
    · subst q; exact .inr (k.new hp)
    · rw [upd_ne q] at e; exact .inl e
  · rw [upd_ne (k.ngen e hp).symm]
    exact (k.gn n e).2.1
  · obtain ⟨v, h1, s⟩ := k.sv i _ e1
    obtain ⟨a, ws, e3, e4, e5, _⟩ := s.at mu
    subst e3
    rw [e2] at h1
    cases h1
    rw [upd_ne (ne_of_none e4 hp)]
    exact e5
/-! ints -/
def iD (f : Int → Int → Px) (C : Int → Int → Prop) : OD := fun x y P => match x, y with
  | .int i, .int j => C i j ∧ P (.d (f i j))
  | _, _ => False
theorem op_iD {f : Value → Value → Sem Value} {C C' : Int → Int → Prop} {g : Int → Int → V} {g' : Int → Int → Px} (h : OpR X f (rI C' g)) (hC : ∀ i j, C i j → C' i j) (hg : ∀ F i j, C i j → Rp F (g i j) (g' i j)) : OpD X Δ f (iD g' C) :=
  ⟨_, h, fun am F σ H c vx vy x y P Q ok rx ry ho k => by
    unfold iD at ho
    split at ho
    · cases rx; cases ry
      exact ⟨_, _, rfl, rfl, hC _ _ ho.1, k _ F _ H ho.2 (Le.refl F) ok (.of (hg F _ _ ho.1))⟩
    · exact ho.elim⟩
theorem op_iD0 {f : Value → Value → Sem Value} {g : Int → Int → V} {g' : Int → Int → Px} (h : OpR X f (rI0 g)) (hg : ∀ F i j, Rp F (g i j) (g' i j)) : OpD X Δ f (iD g' fun _ _ => True) :=
  ⟨_, h, fun am F σ H c vx vy x y P Q ok rx ry ho k => by
    unfold iD at ho
    split at ho
    · cases rx; cases ry
      exact ⟨_, _, rfl, rfl, k _ F _ H ho.2 (Le.refl F) ok (.of (hg F _ _))⟩
    · exact ho.elim⟩
def CMul2 (i j : Int) : Prop := (-(2 ^ 64) < i ∧ i < 2 ^ 64) ∨ (-(2 ^ 64) < j ∧ j < 2 ^ 64) ∨ ∃ a b : Nat, i.natAbs < 2 ^ a ∧ j.natAbs < 2 ^ b ∧ 0 < a ∧ 0 < b ∧ a + b ≤ 1000000
theorem do_sub : OpD X Δ (binaryOp .Sub) (iD (fun i j => .int (i - j)) fun _ _ => True) := op_iD0 op_sub fun _ _ _ => .int _
theorem opr_mono {f : Value → Value → Sem Value} {r r' : R2} (h : OpR X f r) (w : ∀ x y H Q, r' x y H Q → r x y H Q) : OpR X f r' := fun pins s σ H x y v u Q I rx ry q => h pins s σ H x y v u Q I rx ry (w _ _ _ _ q)
theorem do_mul : OpD X Δ (binaryOp .Mult) (iD (fun i j => .int (i * j)) CMul2) :=
  op_iD (C' := fun i j => CMul i j ∨ CMulW i j) (opr_mono (OpR.or op_mul op_mulW) fun x y H Q ⟨i, j, h1, h2, h3, h4⟩ => h3.elim (fun z => .inl ⟨i, j, h1, h2, z, h4⟩) fun z => .inr ⟨i, j, h1, h2, z, h4⟩)
    (fun i j h => by
      rcases h with h | h | ⟨a, b, h1, h2, h3, h4, h5⟩
      · exact .inl (.inl h)
      · exact .inl (.inr h)
      · exact .inr (wide_mul h1 h2 h3 h4 h5)) fun _ _ _ _ => .int _
def CDiv2 (i j : Int) : Prop := (j ≠ 0 ∧ j.natAbs < 1073741824) ∨ (0 < j ∧ ∃ b : Nat, j.natAbs < 2 ^ b ∧ 0 < b ∧ b ≤ 9000)
theorem do_fdiv : OpD X Δ (binaryOp .FloorDiv) (iD (fun i j => .int (i.fdiv j)) CDiv2) :=
  op_iD (C' := fun i j => CDivN i j ∨ CDivW i j) (opr_mono (OpR.or op_fdivN op_fdivW) fun x y H Q ⟨i, j, h1, h2, h3, h4⟩ => h3.elim (fun z => .inl ⟨i, j, h1, h2, z, h4⟩)
      fun z => .inr ⟨i, j, h1, h2, z, by have hp : (0 : Int) < j := z.1; show Q (V.int (i / j)) H; rw [← Int.fdiv_eq_ediv_of_nonneg i (by omega)]; exact h4⟩)
    (fun i j h => by
      rcases h with h | ⟨h, b, h1, h2, h3⟩
      · exact .inl h
      · exact .inr (wide_div h h1 h2 h3)) fun _ _ _ _ => .int _
theorem do_mod : OpD X Δ (binaryOp .Mod) (iD (fun i j => .int (i.fmod j)) fun _ j => j ≠ 0) := op_iD op_modN (fun _ _ h => h) fun _ _ _ _ => .int _
def eqD (neg : Bool) : OD := fun x y P => SeqAt.shaped x = true ∧ SeqAt.shaped y = true ∧ P (.d (.bool (if neg then !PyData.eqv x y else PyData.eqv x y)))
def negD : UD := fun x P => match x with
  | .int i => P (.d (.int (-i)))
  | _ => False
theorem do_neg : UnD X Δ (unaryOp .USub) negD :=
  ⟨_, un_neg, fun am F σ H c vx x P Q ok rx ho k => by
    unfold negD at ho
    split at ho
    · cases rx
      exact ⟨_, rfl, k _ F _ H ho (Le.refl F) ok (.of (.int _))⟩
    · exact ho.elim⟩
/-- +: of ints, lists, tuples -/
def addD : OD := fun x y P => match x, y with
  | .int i, .int j => P (.d (.int (i + j)))
  | .list xs, .list ys => xs.length + ys.length ≤ 1000000 ∧ P (.own (xs ++ ys))
  | .tuple xs, .tuple ys => xs.length + ys.length ≤ 1000000 ∧ P (.d (.tuple (xs ++ ys)))
  | _, _ => False
theorem line_of {n : Nat} (h : n ≤ 1000000) : n ≤ sizeLine := by rw [sizeLine_eq]; omega
theorem do_add (hK : Δ.K = X.K) (hk : X.K = TabF.K := by first | rfl | assumption) : OpD X Δ (binaryOp .Add) addD :=
  ⟨_, OpR.or (OpR.or op_add op_cat) op_catA, fun am F σ H c vx vy x y P Q ok rx ry ho k => by
    unfold addD at ho
    split at ho
    · cases rx; cases ry
      exact .inl (.inl ⟨_, _, rfl, rfl, k _ F _ H ho (Le.refl F) ok (.of (.int _))⟩)
    · cases rx with
      | lst e1 r1 =>
        cases ry with
        | lst e2 r2 =>
          refine .inl (.inr ⟨_, _, _, _, rfl, rfl, ok.fh _ _ e1, ok.fh _ _ e2, line_of (by rw [r1.length, r2.length]; exact ho.1), fun p hp => ?_⟩)
          obtain ⟨o', rs⟩ := Rs.fresh ok hp (r1.append r2)
          exact k _ F _ _ ho.2 (Le.refl F) o' rs
    · rename_i xs ys
      cases rx with
      | tup e1 r1 =>
        cases ry with
        | tup e2 r2 =>
          refine .inr ⟨_, _, _, _, rfl, rfl, e1.sq hk ok.fh, e2.sq hk ok.fh, line_of (by rw [r1.length, r2.length]; exact ho.1), fun z => ?_, fun _ z => ?_, fun _ _ p hp => ?_⟩
          · have := r1.length
            rw [z] at this
            have e0 : xs = [] := List.length_eq_zero_iff.mp this.symm
            subst e0
            exact k _ F _ H ho.2 (Le.refl F) ok (.of (.tup e2 r2))
          · have := r2.length
            rw [z] at this
            have e0 : ys = [] := List.length_eq_zero_iff.mp this.symm
            subst e0
            have h3 := ho.2
            rw [List.append_nil] at h3
            exact k _ F _ H h3 (Le.refl F) ok (.of (.tup e1 r1))
          · obtain ⟨o', l, rp⟩ := ok.tupN hp (r1.append r2)
            exact k _ _ _ _ ho.2 l o' (.of rp)
    · exact ho.elim⟩
end
end Dl
set_option Elab.async false
set_option maxRecDepth 100000
set_option linter.all false
set_option autoImplicit false
namespace Dl
open PySem L2
variable [TabF]
section
variable {X : Cx} {Δ : Dx} {a b e : Expr} {fa fb fc : WE} {pos : Pos}
/-! ### a name's slot, looked at and not given away -/
def slotD (c : Cf) (i : Nat) (k : Px → Prop) : Prop := match c.env[i]? with
  | some (some (.d x)) => k x
  | some (some (.own xs)) => k (.list xs)
  | _ => False
/-- what a slot shows: data over a heap part below H, whose items are data over F -/
theorem Ok.look {am : Addr} {F : Hp} {σ : St} {H : Hp} {c : Cf} (k : Ok Δ am F σ H c) {i : Nat} {q : Px → Prop} (h : slotD c i q) :
    ∃ x v G, σ[i]? = some (some v) ∧ q x ∧ Le F G ∧ Le G H ∧ Rp G v x ∧
      (∀ xs, x = .list xs → ∃ a vs, v = .ref a ∧ H a = some (.lst vs) ∧ RpA F vs xs) ∧ (∀ xs, x = .tuple xs → ∃ a vs, v = .ref a ∧ TupF F a vs ∧ RpA F vs xs) := by
  unfold slotD at h
  split at h
  · rename_i x e
    obtain ⟨v, h1, h2⟩ := k.sv i _ e
    refine ⟨x, v, F, h1, h, Le.refl F, k.fh, h2, ?_, ?_⟩
    · rintro xs rfl
      cases h2 with
      | lst e1 r1 => exact ⟨_, _, rfl, k.fh _ _ e1, r1⟩
    · rintro xs rfl
      cases h2 with
      | tup e1 r1 => exact ⟨_, _, rfl, e1, r1⟩
  · rename_i xs e
    obtain ⟨v, h1, a, vs, e1, e2, e3, e4, e5⟩ := k.sv i _ e
    subst e1
    refine ⟨_, _, upd F a (.lst vs), h1, h, Le.up e3, ?_, .lst upd_same (e5.mono (Le.up e3)), ?_, fun ys z => nomatch z⟩
    · intro b o q
      by_cases z : b = a
      · subst z; rw [upd_same] at q; rw [e2]; exact q
      · rw [upd_ne z] at q; exact k.fh b o q
    · intro ys z
      cases z
      exact ⟨_, _, rfl, e2, e5⟩
  · exact h.elim
/-- an operation that gives a scalar and looks only at what stands -/
structure ScD (X : Cx) (f : Value → Value → Sem Value) (o : OD) : Prop where
  ex : ∃ r : R2, OpR X f r ∧ ∀ (G H : Hp) (vx vy : V) (x y : Px) (P : Rv → Prop) (Q : VK), Le G H → Rp G vx x → Rp G vy y → o x y P →
    (∀ z v, P (.d z) → (∀ F, Rp F v z) → Q v H) → r vx vy H Q
def hasD (c : Cf) (i : Nat) : Prop := slotD c i fun _ => True
def eScL (i : Nat) (o : OD) (fb : WE) : WE := fun c P X => hasD c i ∧ fb c (fun r2 c2 => asD r2 fun y => slotD c2 i fun x => o x y fun r => P r c2) X
def eScR (i : Nat) (o : OD) (fa : WE) : WE := fun c P X => fa c (fun r1 c1 => asD r1 fun x => slotD c1 i fun y => o x y fun r => P r c1) X
def eSc (o : OD) (fa fb : WE) : WE := fun c P X => fa c (fun r1 c1 => asD r1 fun x => fb c1 (fun r2 c2 => asD r2 fun y => o x y fun r => P r c2) X) X
theorem scL_of {r : R2} {o : OD} {i : Nat} (h2 : ∀ (G H : Hp) (vx vy : V) (x y : Px) (P : Rv → Prop) (Q : VK), Le G H → Rp G vx x → Rp G vy y → o x y P →
    (∀ z v, P (.d z) → (∀ F, Rp F v z) → Q v H) → r vx vy H Q) (σ : St) (H : Hp) (Q : VK) (h : tE Δ (eScL i o fb) σ H Q) : tOp r (tVar i) (tE Δ fb) σ H Q := by
  obtain ⟨am, F, c, P, XX, ok, ⟨hd, hf⟩, kq, kx⟩ := h
  obtain ⟨_, v, _, hv, _⟩ := ok.look hd
  refine ⟨v, hv, am, F, c, _, XX, ok, hf, fun r2 c2 F2 v2 H2 p2 l2 o2 s2 => ?_, kx⟩
  obtain ⟨y, F2', hy, l2', o2', rp2⟩ := s2.data o2 p2
  obtain ⟨x, w, G, e1, hx, l3, l4, rpx, _⟩ := o2'.look hy
  rw [hv] at e1
  cases e1
  exact h2 G H2 v v2 x y _ Q l4 rpx (rp2.mono l3) hx fun z u pz rz => kq _ c2 F2' u H2 pz (l2.trans l2') o2' (.of (rz _))
theorem scR_of {r : R2} {o : OD} {i : Nat} (h2 : ∀ (G H : Hp) (vx vy : V) (x y : Px) (P : Rv → Prop) (Q : VK), Le G H → Rp G vx x → Rp G vy y → o x y P →
    (∀ z v, P (.d z) → (∀ F, Rp F v z) → Q v H) → r vx vy H Q) (σ : St) (H : Hp) (Q : VK) (h : tE Δ (eScR i o fa) σ H Q) : tOp r (tE Δ fa) (tVar i) σ H Q := by
  obtain ⟨am, F, c, P, XX, ok, hf, kq, kx⟩ := h
  refine ⟨am, F, c, _, XX, ok, hf, fun r1 c1 F1 v1 H1 p1 l1 o1 s1 => ?_, kx⟩
  obtain ⟨x, F1', hx, l1', o1', rp1⟩ := s1.data o1 p1
  obtain ⟨y, w, G, e1, hy, l3, l4, rpy, _⟩ := o1'.look hx
  exact ⟨w, e1, h2 G H1 v1 w x y _ Q l4 (rp1.mono l3) rpy hy fun z u pz rz => kq _ c1 F1' u H1 pz (l1.trans l1') o1' (.of (rz _))⟩
theorem sc_of {r : R2} {o : OD} (h2 : ∀ (G H : Hp) (vx vy : V) (x y : Px) (P : Rv → Prop) (Q : VK), Le G H → Rp G vx x → Rp G vy y → o x y P →
    (∀ z v, P (.d z) → (∀ F, Rp F v z) → Q v H) → r vx vy H Q) (σ : St) (H : Hp) (Q : VK) (h : tE Δ (eSc o fa fb) σ H Q) : tOp r (tE Δ fa) (tE Δ fb) σ H Q :=
  two_of (o := o) (fun am F σ H c vx vy x y P Q ok rx ry ho k => h2 F H vx vy x y P Q ok.fh rx ry ho fun z v pz rz => k _ F v H pz (Le.refl F) ok (.of (rz F))) σ H Q h
section
variable {op : CmpOp} {o : OD}
theorem de_cmp' (ho : ScD X (compareOp op) o) (ha : PE X a (tE Δ fa)) (hb : PE X b (tE Δ fb)) (hm : behindInMarks op b = false) : PE X (.Compare a [op] [b] pos) (tE Δ (eSc o fa fb)) := by
  obtain ⟨r, h1, h2⟩ := ho.ex
  exact (pe_cmpR h1 ha hb hm).imp fun σ H Q h => sc_of h2 σ H Q h
/-- the same as tests -/
def wB (f : WE) : WT := fun c P X => f c (fun r c1 => match r with
  | .d (.bool b) => P b c1
  | _ => False) X
theorem tB_of (t : TE) (f : WE) (w : ∀ σ H Q, tE Δ f σ H Q → t σ H Q) (σ : St) (H : Hp) (Q : Bool → Hp → Prop) (h : tT Δ (wB f) σ H Q) : tTest t σ H Q := by
  obtain ⟨am, F, c, P, XX, ok, hf, kq, kx⟩ := h
  refine w σ H _ ⟨am, F, c, _, XX, ok, hf, fun r c' F' v H' p l o s => ?_, kx⟩
  dsimp only at p
  split at p
  · rename_i b
    have h1 := s.1
    cases h1
    exact ⟨b, rfl, kq b c' F' H' p l o⟩
  · exact p.elim
theorem dt_cmpNL (i : Nat) {x : Str} {p : Pos} (ho : ScD X (compareOp op) o) (hb : PE X b (tE Δ fb)) (hm : behindInMarks op b = false) (hN : X.N[i]? = some x := by rfl)
    (hv : Vis X.env.scope x := by first | exact Or.inl rfl | exact Or.inr (Or.inl rfl) | exact Or.inr (Or.inr rfl)) (hd : (x == ("__debug__" : Str)) = false := by decide)
    (hcd : (x == ("__classdict__" : Str)) = false := by decide) : PT X (.Compare (.Name x p) [op] [b] pos) (tT Δ (wB (eScL i o fb))) := by
  obtain ⟨r, h1, h2⟩ := ho.ex
  exact (pt_cmpR h1 (pv i hN hv hd hcd) hb hm).imp fun σ H Q h => tB_of _ _ (fun σ H Q h => scL_of h2 σ H Q h) σ H Q h
theorem dt_cmpNR (i : Nat) {x : Str} {p : Pos} (ho : ScD X (compareOp op) o) (ha : PE X a (tE Δ fa)) (hm : behindInMarks op (.Name x p) = false) (hN : X.N[i]? = some x := by rfl)
    (hv : Vis X.env.scope x := by first | exact Or.inl rfl | exact Or.inr (Or.inl rfl) | exact Or.inr (Or.inr rfl)) (hd : (x == ("__debug__" : Str)) = false := by decide)
    (hcd : (x == ("__classdict__" : Str)) = false := by decide) : PT X (.Compare a [op] [.Name x p] pos) (tT Δ (wB (eScR i o fa))) := by
  obtain ⟨r, h1, h2⟩ := ho.ex
  exact (pt_cmpR h1 ha (pv i hN hv hd hcd) hm).imp fun σ H Q h => tB_of _ _ (fun σ H Q h => scR_of h2 σ H Q h) σ H Q h
theorem dt_cmp (ho : ScD X (compareOp op) o) (ha : PE X a (tE Δ fa)) (hb : PE X b (tE Δ fb)) (hm : behindInMarks op b = false) : PT X (.Compare a [op] [b] pos) (tT Δ (wB (eSc o fa fb))) := by
  obtain ⟨r, h1, h2⟩ := ho.ex
  exact (pt_cmpR h1 ha hb hm).imp fun σ H Q h => tB_of _ _ (fun σ H Q h => sc_of h2 σ H Q h) σ H Q h
variable {op' : CmpOp} {o' : OD}
def eCh (o o' : OD) (fa fb fc : WE) : WE := fun c P X => fa c (fun r1 c1 => asD r1 fun x => fb c1 (fun r2 c2 => asD r2 fun y => o x y fun r => match r with
  | .d (.bool true) => fc c2 (fun r3 c3 => asD r3 fun z => o' y z fun r => P r c3) X
  | .d (.bool false) => P (.d (.bool false)) c2
  | _ => False) X) X
end
/-! the comparisons -/
theorem sc_int {f : Value → Value → Sem Value} {g : Int → Int → Bool} (h : OpR X f (rI0 fun i j => .bl (g i j))) : ScD X f (iD (fun i j => .bool (g i j)) fun _ _ => True) :=
  ⟨_, h, fun G H vx vy x y P Q l rx ry ho k => by
    unfold iD at ho
    split at ho
    · cases rx; cases ry
      exact ⟨_, _, rfl, rfl, k _ _ ho.2 fun F => .bl _⟩
    · exact ho.elim⟩
def ltD : OD := iD (fun i j => .bool (decide (i < j))) fun _ _ => True
def leD : OD := iD (fun i j => .bool (decide (i ≤ j))) fun _ _ => True
def gtD : OD := iD (fun i j => .bool (decide (j < i))) fun _ _ => True
def geD : OD := iD (fun i j => .bool (decide (j ≤ i))) fun _ _ => True
theorem sc_lt : ScD X (compareOp .Lt) ltD := sc_int op_lt
theorem sc_gt : ScD X (compareOp .Gt) gtD := sc_int op_gt
theorem sc_ge : ScD X (compareOp .GtE) geD := sc_int op_ge
theorem sc_eq (hu : X.A.units + 64 < cLine) (hk : X.K = TabF.K := by first | rfl | assumption) : ScD X (compareOp .Eq) (eqD false) :=
  ⟨_, op_eqD hu, fun G H vx vy x y P Q l rx ry ho k => ⟨x, y, rx.dp hk l (sh_nd ho.1), ry.dp hk l (sh_nd ho.2.1), ho.1, ho.2.1, k _ _ ho.2.2 fun F => .bl _⟩⟩
theorem sc_ne (hu : X.A.units + 64 < cLine) (hk : X.K = TabF.K := by first | rfl | assumption) : ScD X (compareOp .NotEq) (eqD true) :=
  ⟨_, op_neD hu, fun G H vx vy x y P Q l rx ry ho k => ⟨x, y, rx.dp hk l (sh_nd ho.1), ry.dp hk l (sh_nd ho.2.1), ho.1, ho.2.1, k _ _ ho.2.2 fun F => .bl _⟩⟩
/-- in, over flat things: ints, texts, None, bools -/
def flatD : Px → Bool
  | .none | .bool _ | .int _ | .str _ => true
  | _ => false
def inD (neg : Bool) : OD := fun x y P => match y with
  | .list ys => flatD x = true ∧ ys.all flatD = true ∧ P (.d (.bool (if neg then !ys.any fun z => PyData.eqv z x else ys.any fun z => PyData.eqv z x)))
  | .tuple ys => flatD x = true ∧ ys.all flatD = true ∧ P (.d (.bool (if neg then !ys.any fun z => PyData.eqv z x else ys.any fun z => PyData.eqv z x)))
  | _ => False
theorem flat_rp {F : Hp} {v : V} {x : Px} (r : Rp F v x) (h : flatD x = true) : flatV v = true := by
  cases r <;> first | rfl | exact absurd h (by simp [flatD])
theorem flat_rpa {F : Hp} : ∀ {vs : List V} {xs : List Px}, RpA F vs xs → xs.all flatD = true → vs.all flatV = true
  | _, _, .nil, _ => rfl
  | _, _, .cons a b, h => by
    simp only [List.all_cons, Bool.and_eq_true] at h ⊢
    exact ⟨flat_rp a h.1, flat_rpa b h.2⟩
theorem eqv_rp {F G : Hp} {v w : V} {x y : Px} (r : Rp F v x) (q : Rp G w y) (hx : flatD x = true) (hy : flatD y = true) : eqV v w = PyData.eqv x y := by
  cases r <;> cases q <;> first | rfl | (exact absurd hx (by simp [flatD])) | (exact absurd hy (by simp [flatD])) | (simp [eqV, PyData.eqv]; done) | (simp [eqV, PyData.eqv, b2i]; done) | skip
theorem any_rp {F G : Hp} {v : V} {x : Px} (r : Rp G v x) (hx : flatD x = true) : ∀ {vs : List V} {xs : List Px}, RpA F vs xs → xs.all flatD = true → (vs.any fun w => eqV w v) = xs.any fun z => PyData.eqv z x
  | _, _, .nil, _ => rfl
  | _, _, .cons a b, h => by
    simp only [List.all_cons, Bool.and_eq_true] at h
    simp only [List.any_cons, eqv_rp a r h.1 hx, any_rp r hx b h.2]
theorem sc_inG {f : Value → Value → Sem Value} {neg : Bool} (h : OpR X f (rIn X.K neg)) (hk : X.K = TabF.K := by first | rfl | assumption) : ScD X f (inD neg) :=
  ⟨_, h, fun G H vx vy x y P Q l rx ry ho k => by
    unfold inD at ho
    split at ho
    · cases ry with
      | lst e r1 =>
        refine ⟨_, _, rfl, .inl (SqL.of (l _ _ e)), flat_rp rx ho.1, flat_rpa r1 ho.2.1, ?_⟩
        unfold inV
        rw [any_rp rx ho.1 r1 ho.2.1]
        exact k _ _ ho.2.2 fun F => .bl _
    · cases ry with
      | tup e r1 =>
        refine ⟨_, _, rfl, .inr (e.sq hk l), flat_rp rx ho.1, flat_rpa r1 ho.2.1, ?_⟩
        unfold inV
        rw [any_rp rx ho.1 r1 ho.2.1]
        exact k _ _ ho.2.2 fun F => .bl _
    · exact ho.elim⟩
theorem sc_in (hk : X.K = TabF.K := by first | rfl | assumption) : ScD X (compareOp .In) (inD false) := sc_inG op_in_seq
theorem sc_notin (hk : X.K = TabF.K := by first | rfl | assumption) : ScD X (compareOp .NotIn) (inD true) := sc_inG op_notIn_seq
/-! ### truth -/
def truD (x : Px) (k : Bool → Prop) : Prop := match x with
  | .none => k false
  | .bool b => k b
  | .int i => k (i != 0)
  | .list xs => k (!xs.isEmpty)
  | .tuple xs => k (!xs.isEmpty)
  | _ => False
theorem RpA.emp {F : Hp} {vs : List V} {xs : List Px} (r : RpA F vs xs) : vs.isEmpty = xs.isEmpty := by cases r <;> rfl
theorem tru_of {K : PySem.W.Frag} {G H : Hp} {v : V} {x : Px} {q : Bool → Prop} (l : Le G H) (r : Rp G v x) (h : truD x q) (hk : K = TabF.K := by first | rfl | assumption) : ∃ k, TruV K v H k ∧ q k := by
  cases r with
  | non => exact ⟨false, rfl, h⟩
  | bl b => exact ⟨b, rfl, h⟩
  | int i => exact ⟨_, rfl, h⟩
  | str x => exact (show False from h).elim
  | lst e r1 => exact ⟨_, .inl ⟨_, SqL.of (l _ _ e), rfl⟩, by rw [r1.emp]; exact h⟩
  | tup e r1 => exact ⟨_, .inr (.inl ⟨_, e.sq hk l, rfl⟩), by rw [r1.emp]; exact h⟩
  | fn e => exact (show False from h).elim
  | dct _ _ => exact (show False from h).elim
  | dci _ _ => exact (show False from h).elim
def wTru (fa : WE) : WT := fun c P X => fa c (fun r c1 => asD r fun x => truD x fun b => P b c1) X
def wTruN (i : Nat) : WT := fun c P _ => slotD c i fun x => truD x fun b => P b c
theorem dt_tru (ha : PE X a (tE Δ fa)) (he : ∀ whole, isTrue a X.env whole = (do let v ← whole; standAt a.pos; holding [v] (truthy v)) := by intro _; rfl) (hk : X.K = TabF.K := by first | rfl | assumption) : PT X a (tT Δ (wTru fa)) := by
  refine (pt_truth ha he).imp fun σ H Q ⟨am, F, c, P, XX, ok, hf, kq, kx⟩ => ?_
  refine ⟨am, F, c, _, XX, ok, hf, fun r1 c1 F1 v1 H1 p1 l1 o1 s1 => ?_, kx⟩
  obtain ⟨x, F1', hx, l1', o1', rp1⟩ := s1.data o1 p1
  obtain ⟨k, h1, h2⟩ := tru_of (K := X.K) o1'.fh rp1 hx
  exact ⟨k, h1, kq k c1 F1' H1 h2 (l1.trans l1') o1'⟩
theorem dt_truN (i : Nat) {x : Str} {p : Pos} (hN : X.N[i]? = some x := by rfl)
    (hv : Vis X.env.scope x := by first | exact Or.inl rfl | exact Or.inr (Or.inl rfl) | exact Or.inr (Or.inr rfl)) (hd : (x == ("__debug__" : Str)) = false := by decide)
    (hcd : (x == ("__classdict__" : Str)) = false := by decide) (hk : X.K = TabF.K := by first | rfl | assumption) : PT X (.Name x p) (tT Δ (wTruN i)) := by
  refine (pt_truth (pv i hN hv hd hcd) (by intro _; rfl)).imp fun σ H Q ⟨am, F, c, P, XX, ok, hf, kq, kx⟩ => ?_
  obtain ⟨x, v, G, e1, hx, l3, l4, rpx, _⟩ := ok.look hf
  obtain ⟨k, h1, h2⟩ := tru_of (K := X.K) l4 rpx hx
  exact ⟨v, e1, k, h1, kq k c F H h2 (Le.refl F) ok⟩
section
variable {fA fB : WT} {rest : List Expr}
def wAnd (t u : WT) : WT := fun c P X => t c (fun b c1 => if b = true then u c1 P X else P false c1) X
def wOr (t u : WT) : WT := fun c P X => t c (fun b c1 => if b = true then P true c1 else u c1 P X) X
def wNot (t : WT) : WT := fun c P X => t c (fun b c1 => P (!b) c1) X
theorem _root_.L2.PW.imp {t t' : TT} (h : PW X a t) (w : ∀ σ H Q, t' σ H Q → t σ H Q) : PW X a t' :=
  ⟨fun wh pins s σ H Q I q => h.run wh pins s σ H Q I (w σ H Q q)⟩
theorem dw_and1 (ha : PT X a (tT Δ fA)) : PW X (.BoolOp .And [a] pos) (tT Δ fA) := pw_and1 ha
theorem dw_or1 (ha : PT X a (tT Δ fA)) : PW X (.BoolOp .Or [a] pos) (tT Δ fA) := pw_or1 ha
theorem dw_and (ha : PT X a (tT Δ fA)) (hb : PW X (.BoolOp .And (b :: rest) pos) (tT Δ fB)) : PW X (.BoolOp .And (a :: b :: rest) pos) (tT Δ (wAnd fA fB)) := by
  refine (pw_and ha hb).imp fun σ H Q ⟨am, F, c, P, XX, ok, hf, kq, kx⟩ => ?_
  refine ⟨am, F, c, _, XX, ok, hf, fun k c1 F1 H1 p1 l1 o1 => ?_, kx⟩
  cases k with
  | true =>
    rw [if_pos rfl]
    rw [if_pos rfl] at p1
    exact ⟨am, F1, c1, _, XX, o1, p1, fun k' c2 F2 H2 p2 l2 o2 => kq k' c2 F2 H2 p2 (l1.trans l2) o2, kx.le l1⟩
  | false =>
    rw [if_neg Bool.false_ne_true]
    rw [if_neg Bool.false_ne_true] at p1
    exact kq false c1 F1 H1 p1 l1 o1
theorem dw_or (ha : PT X a (tT Δ fA)) (hb : PW X (.BoolOp .Or (b :: rest) pos) (tT Δ fB)) : PW X (.BoolOp .Or (a :: b :: rest) pos) (tT Δ (wOr fA fB)) := by
  refine (pw_or ha hb).imp fun σ H Q ⟨am, F, c, P, XX, ok, hf, kq, kx⟩ => ?_
  refine ⟨am, F, c, _, XX, ok, hf, fun k c1 F1 H1 p1 l1 o1 => ?_, kx⟩
  cases k with
  | false =>
    rw [if_neg Bool.false_ne_true]
    rw [if_neg Bool.false_ne_true] at p1
    exact ⟨am, F1, c1, _, XX, o1, p1, fun k' c2 F2 H2 p2 l2 o2 => kq k' c2 F2 H2 p2 (l1.trans l2) o2, kx.le l1⟩
  | true =>
    rw [if_pos rfl]
    rw [if_pos rfl] at p1
    exact kq true c1 F1 H1 p1 l1 o1
theorem dt_not (ha : PT X a (tT Δ fA)) : PT X (.UnaryOp .Not a pos) (tT Δ (wNot fA)) := by
  refine (pt_not ha).imp fun σ H Q ⟨am, F, c, P, XX, ok, hf, kq, kx⟩ => ?_
  exact ⟨am, F, c, _, XX, ok, hf, fun k c1 F1 H1 p1 l1 o1 => kq _ c1 F1 H1 p1 l1 o1, kx⟩
end
/-! and, or, not as values: all but the last are bools -/
section
variable {rest : List Expr}
def asB (r : Rv) (k : Bool → Prop) : Prop := match r with
  | .d (.bool b) => k b
  | _ => False
def eAnd (t u : WE) : WE := fun c P X => t c (fun r c1 => asB r fun b => if b = true then u c1 P X else P (.d (.bool false)) c1) X
def eOr (t u : WE) : WE := fun c P X => t c (fun r c1 => asB r fun b => if b = true then P (.d (.bool true)) c1 else u c1 P X) X
def eNot (t : WE) : WE := fun c P X => t c (fun r c1 => asB r fun b => P (.d (.bool (!b))) c1) X
def eIf (t : WT) (fa fb : WE) : WE := fun c P X => t c (fun b c1 => if b = true then fa c1 P X else fb c1 P X) X
theorem de_if {cnd : Expr} {fA : WT} (hc : PT X cnd (tT Δ fA)) (ha : PE X a (tE Δ fa)) (hb : PE X b (tE Δ fb)) : PE X (.IfExp cnd a b pos) (tE Δ (eIf fA fa fb)) := by
  refine (pe_ifExp hc ha hb).imp fun σ H Q ⟨am, F, c, P, XX, ok, hf, kq, kx⟩ => ?_
  refine ⟨am, F, c, _, XX, ok, hf, fun k c1 F1 H1 p1 l1 o1 => ?_, kx⟩
  cases k with
  | true =>
    rw [if_pos rfl]
    rw [if_pos rfl] at p1
    exact ⟨am, F1, c1, _, XX, o1, p1, fun r2 c2 F2 v2 H2 p2 l2 o2 s2 => kq r2 c2 F2 v2 H2 p2 (l1.trans l2) o2 s2, kx.le l1⟩
  | false =>
    rw [if_neg Bool.false_ne_true]
    rw [if_neg Bool.false_ne_true] at p1
    exact ⟨am, F1, c1, _, XX, o1, p1, fun r2 c2 F2 v2 H2 p2 l2 o2 s2 => kq r2 c2 F2 v2 H2 p2 (l1.trans l2) o2 s2, kx.le l1⟩
end
end
end Dl
set_option Elab.async false
set_option maxRecDepth 100000
set_option linter.all false
set_option autoImplicit false
namespace Dl
open PySem L2
variable [TabF]
section
variable {X : Cx} {Δ : Dx} {a b e : Expr} {fa fb fc : WE} {pos : Pos} {es : List Expr} {fr : WA}
/-! ### arguments -/
def argR (r : Rv) (k : Rv → Prop) : Prop := match r with
  | .d x => k (.d x)
  | .own xs => k (.d (.list xs))
  | .gen => k .gen
  | .scr ns => k (.scr ns)
  | .dic _ => False
def aNil : WA := fun c P _ => P [] c
def aCons (f : WE) (g : WA) : WA := fun c P X => f c (fun r c1 => argR r fun x => g c1 (fun rs c2 => P (x :: rs) c2) X) X
theorem da_nil : PA X [] (tA Δ aNil) := pa_nil.imp fun σ H Q ⟨am, F, c, P, XX, ok, hf, kq, kx⟩ => kq _ c F _ H hf (Le.refl F) ok .nil
theorem Rs.arg {am : Addr} {F : Hp} {σ : St} {H : Hp} {c : Cf} {r : Rv} {v : V} {k : Rv → Prop} (o : Ok Δ am F σ H c) (h : Rs Δ am F σ H c r v) (q : argR r k) :
    ∃ x F', k x ∧ Le F F' ∧ Ok Δ am F' σ H c ∧ ∀ G rs vs, Le F' G → Rss Δ am G rs vs → Rss Δ am G (x :: rs) (v :: vs) := by
  cases r with
  | d x => exact ⟨_, F, q, Le.refl F, o, fun G rs vs l s => .d (Rp.mono l h.1) s⟩
  | own xs =>
    obtain ⟨x, F', h1, l, o', rp⟩ := h.data (k := fun x => k (.d x)) o q
    exact ⟨_, F', h1, l, o', fun G rs vs l s => .d (Rp.mono l rp) s⟩
  | gen =>
    have e : v = .ref am := h.1
    subst e
    exact ⟨_, F, q, Le.refl F, o, fun G rs vs l s => .gen s⟩
  | scr ns =>
    obtain ⟨a, e, hq⟩ := h.1
    subst e
    exact ⟨_, F, q, Le.refl F, o, fun G rs vs l s => .scr (sq_le l hq) s⟩
  | dic D => exact q.elim
theorem da_cons (ha : PE X e (tE Δ fa)) (hr : PA X es (tA Δ fr)) (hs : starEach (e :: es) X.env = (false, eval e X.env) :: starEach es X.env := by rfl) : PA X (e :: es) (tA Δ (aCons fa fr)) := by
  refine (pa_cons ha hr hs).imp fun σ H Q ⟨am, F, c, P, XX, ok, hf, kq, kx⟩ => ?_
  refine ⟨am, F, c, _, XX, ok, hf, fun r1 c1 F1 v1 H1 p1 l1 o1 s1 => ?_, kx⟩
  obtain ⟨x, F1', hx, l1', o1', g⟩ := s1.arg o1 p1
  exact ⟨am, F1', c1, _, XX, o1', hx, fun rs c2 F2 vs H2 p2 l2 o2 s2 => kq _ c2 F2 _ H2 p2 ((l1.trans l1').trans l2) o2 (g F2 rs vs l2 s2), kx.le (l1.trans l1')⟩
/-- the arguments are data -/
def asDs : List Rv → (List Px → Prop) → Prop
  | [], k => k []
  | .d x :: rs, k => asDs rs fun xs => k (x :: xs)
  | _, _ => False
theorem asDs_of {am : Addr} {F : Hp} : ∀ {rs : List Rv} {vs : List V} {k : List Px → Prop}, Rss Δ am F rs vs → asDs rs k → ∃ xs, k xs ∧ RpA F vs xs
  | _, _, _, .nil, h => ⟨[], h, .nil⟩
  | _, _, _, .d r s, h => by
    obtain ⟨xs, h1, h2⟩ := asDs_of s h
    exact ⟨_, h1, .cons r h2⟩
  | _, _, _, .gen _, h => h.elim
  | _, _, _, .scr _ _, h => h.elim
def eTup (f : WA) : WE := fun c P X => f c (fun rs c1 => asDs rs fun xs => xs.length ≤ 1000000 ∧ P (.d (.tuple xs)) c1) X
def eLst (f : WA) : WE := fun c P X => f c (fun rs c1 => asDs rs fun xs => xs.length ≤ 1000000 ∧ P (.own xs) c1) X
theorem de_tup {k : Nat} (h : PA X es (tA Δ fr)) : PE X (.Tuple es k pos) (tE Δ (eTup fr)) := by
  refine (pe_tup h).imp fun σ H Q ⟨am, F, c, P, XX, ok, hf, kq, kx⟩ => ?_
  refine ⟨am, F, c, _, XX, ok, hf, fun rs c1 F1 vs H1 p1 l1 o1 s1 => ?_, kx⟩
  obtain ⟨xs, h1, r⟩ := asDs_of s1 p1
  refine ⟨line_of (by rw [r.length]; exact h1.1), fun p hp => ?_⟩
  obtain ⟨o', l, rp⟩ := o1.tupN hp r
  exact kq _ c1 _ _ _ h1.2 (l1.trans l) o' (.of rp)
theorem de_lst (h : PA X es (tA Δ fr)) : PE X (.List es pos) (tE Δ (eLst fr)) := by
  refine (pe_lst h).imp fun σ H Q ⟨am, F, c, P, XX, ok, hf, kq, kx⟩ => ?_
  refine ⟨am, F, c, _, XX, ok, hf, fun rs c1 F1 vs H1 p1 l1 o1 s1 => ?_, kx⟩
  obtain ⟨xs, h1, r⟩ := asDs_of s1 p1
  refine ⟨line_of (by rw [r.length]; exact h1.1), fun p hp => ?_⟩
  obtain ⟨o', rs'⟩ := Rs.fresh o1 hp r
  exact kq _ c1 F1 _ _ h1.2 l1 o' rs'
/-! ### built-ins by their values -/
abbrev CD := List Rv → (Rv → Prop) → Prop
structure ClD (X : Cx) (Δ : Dx) (f : Value) (o : CD) : Prop where
  ex : ∃ r : List V → Hp → VK → Prop, CallR X f r ∧ ∀ (am : Addr) (F : Hp) (σ : St) (H : Hp) (c : Cf) (vs : List V) (rs : List Rv) (P : Rv → Prop) (Q : VK), Ok Δ am F σ H c → Rss Δ am F rs vs → o rs P →
    (∀ rr F' v H', P rr → Le F F' → Ok Δ am F' σ H' c → Rs Δ am F' σ H' c rr v → Q v H') → r vs H Q
def eCB (o : CD) (f : WA) : WE := fun c P X => f c (fun rs c1 => o rs fun r => P r c1) X
theorem cb_of {r : List V → Hp → VK → Prop} {o : CD} (ho : ∀ (am : Addr) (F : Hp) (σ : St) (H : Hp) (c : Cf) (vs : List V) (rs : List Rv) (P : Rv → Prop) (Q : VK), Ok Δ am F σ H c → Rss Δ am F rs vs → o rs P →
    (∀ rr F' v H', P rr → Le F F' → Ok Δ am F' σ H' c → Rs Δ am F' σ H' c rr v → Q v H') → r vs H Q) (σ : St) (H : Hp) (Q : VK) (h : tE Δ (eCB o fr) σ H Q) : tCB r (tA Δ fr) σ H Q := by
  obtain ⟨am, F, c, P, XX, ok, hf, kq, kx⟩ := h
  exact ⟨am, F, c, _, XX, ok, hf, fun rs c1 F1 vs H1 p1 l1 o1 s1 => ho am F1 σ H1 c1 vs rs _ Q o1 s1 p1 fun rr F' v H' prr l o s => kq rr c1 F' v H' prr (l1.trans l) o s, kx⟩
section
variable {x : Str} {p : Pos} {id T : String} {o : CD}
theorem de_cb (hc : ClD X Δ (.builtin id) o) (hg : Gl X x) (hm : X.mg x = none) (hv : bootBuiltins x = some (.builtin id)) (ha : PA X (e :: es) (tA Δ fr)) (hn : x ≠ "__name__" := by decide) (hdb : (x == ("__debug__" : Str)) = false := by decide)
    (he : starEach (e :: es) X.env = (false, eval e X.env) :: starEach es X.env := by rfl) (hpl : (backTo pos (starEach es X.env)).any (·.1) = false := by rfl) : PE X (.Call (.Name x p) (e :: es) [] pos) (tE Δ (eCB o fr)) := by
  obtain ⟨r, h1, h2⟩ := hc.ex
  exact (pe_callB h1 hg hm hv ha hn hdb he hpl).imp fun σ H Q h => cb_of h2 σ H Q h
theorem de_ct (hc : ClD X Δ (.type T) o) (hg : Gl X x) (hm : X.mg x = none) (hv : bootBuiltins x = some (.type T)) (ha : PA X (e :: es) (tA Δ fr)) (hn : x ≠ "__name__" := by decide) (hdb : (x == ("__debug__" : Str)) = false := by decide)
    (he : starEach (e :: es) X.env = (false, eval e X.env) :: starEach es X.env := by rfl) (hpl : (backTo pos (starEach es X.env)).any (·.1) = false := by rfl) : PE X (.Call (.Name x p) (e :: es) [] pos) (tE Δ (eCB o fr)) := by
  obtain ⟨r, h1, h2⟩ := hc.ex
  exact (pe_callTy h1 hg hm hv ha hn hdb he hpl).imp fun σ H Q h => cb_of h2 σ H Q h
end
def lenC : CD := fun rs P => match rs with
  | [.d (.list xs)] => P (.d (.int xs.length))
  | [.d (.tuple xs)] => P (.d (.int xs.length))
  | [.scr ns] => P (.d (.int ns.length))
  | _ => False
theorem cl_len (hK : Δ.K = X.K) (hk : X.K = TabF.K := by first | rfl | assumption) : ClD X Δ (.builtin "len") lenC :=
  ⟨_, call_len_seq, fun am F σ H c vs rs P Q ok rx ho k => by
    unfold lenC at ho
    split at ho
    · cases rx with
      | d r s =>
        cases s
        cases r with
        | lst e r1 => exact ⟨_, _, rfl, .inl (SqL.of (ok.fh _ _ e)), k _ F _ H (by rw [r1.length]; exact ho) (Le.refl F) ok (.of (.int _))⟩
    · cases rx with
      | d r s =>
        cases s
        cases r with
        | tup e r1 => exact ⟨_, _, rfl, .inr (e.sq hk ok.fh), k _ F _ H (by rw [r1.length]; exact ho) (Le.refl F) ok (.of (.int _))⟩
    · cases rx with
      | scr e s =>
        cases s
        exact ⟨_, _, rfl, .inl (sq_le ok.fh (hK ▸ e)), k _ F _ H (by rw [List.length_map]; exact ho) (Le.refl F) ok (.of (.int _))⟩
    · exact ho.elim⟩
/-- len of a name's list -/
def lenD (x : Px) (k : Nat → Prop) : Prop := match x with
  | .list xs => k xs.length
  | .tuple xs => k xs.length
  | _ => False
def eLenN (i : Nat) : WE := fun c P _ => slotD c i fun x => lenD x fun n => P (.d (.int n)) c
theorem de_lenN (i : Nat) {x f : Str} {p p' : Pos} (hf : f = "len") (hg : Gl X f) (hm : X.mg f = none) (hv : bootBuiltins f = some (.builtin "len")) (hN : X.N[i]? = some x := by rfl)
    (hvi : Vis X.env.scope x := by first | exact Or.inl rfl | exact Or.inr (Or.inl rfl) | exact Or.inr (Or.inr rfl)) (hd : (x == ("__debug__" : Str)) = false := by decide)
    (hcd : (x == ("__classdict__" : Str)) = false := by decide) (hk : X.K = TabF.K := by first | rfl | assumption) : PE X (.Call (.Name f p) [.Name x p'] [] pos) (tE Δ (eLenN i)) := by
  subst hf
  refine (pe_callB call_len_seq hg hm hv (pa_cons (pv i hN hvi hd hcd) pa_nil)).imp fun σ H Q ⟨am, F, c, P, XX, ok, hf, kq, kx⟩ => ?_
  obtain ⟨x, v, G, e1, hx, l3, l4, rpx, _⟩ := ok.look hf
  refine ⟨v, e1, ?_⟩
  unfold lenD at hx
  split at hx
  · cases rpx with
    | lst e r1 => exact ⟨_, _, rfl, .inl (SqL.of (l4 _ _ e)), kq _ c F _ H (by rw [r1.length]; exact hx) (Le.refl F) ok (.of (.int _))⟩
  · cases rpx with
    | tup e r1 => exact ⟨_, _, rfl, .inr (e.sq hk l4), kq _ c F _ H (by rw [r1.length]; exact hx) (Le.refl F) ok (.of (.int _))⟩
  · exact hx.elim
def absC : CD := fun rs P => match rs with
  | [.d (.int i)] => P (.d (.int i.natAbs))
  | _ => False
theorem cl_abs : ClD X Δ (.builtin "abs") absC :=
  ⟨_, call_abs, fun am F σ H c vs rs P Q ok rx ho k => by
    unfold absC at ho
    split at ho
    · rename_i i
      cases rx with
      | d r s =>
        cases s
        cases r
        refine ⟨_, rfl, k _ F _ H ho (Le.refl F) ok (.of ?_)⟩
        rw [show (if i < 0 then -i else i) = (i.natAbs : Int) by split <;> omega]
        exact .int _
    · exact ho.elim⟩
def intC : CD := fun rs P => match rs with
  | [.d (.int i)] => P (.d (.int i))
  | [.d (.bool b)] => P (.d (.int (if b then 1 else 0)))
  | _ => False
theorem cl_int : ClD X Δ (.type "int") intC :=
  ⟨_, call_int1, fun am F σ H c vs rs P Q ok rx ho k => by
    unfold intC at ho
    split at ho
    · cases rx with
      | d r s =>
        cases s
        cases r
        exact .inl ⟨_, rfl, k _ F _ H ho (Le.refl F) ok (.of (.int _))⟩
    · cases rx with
      | d r s =>
        cases s
        cases r
        exact .inr ⟨_, rfl, k _ F _ H ho (Le.refl F) ok (.of (.int _))⟩
    · exact ho.elim⟩
def tupC : CD := fun rs P => match rs with
  | [.d (.list xs)] => P (.d (.tuple xs))
  | [.d (.tuple xs)] => P (.d (.tuple xs))
  | _ => False
theorem cl_tup (hK : Δ.K = X.K) (hk : X.K = TabF.K := by first | rfl | assumption) : ClD X Δ (.type "tuple") tupC :=
  ⟨_, call_tuple_of, fun am F σ H c vs rs P Q ok rx ho k => by
    unfold tupC at ho
    split at ho
    · cases rx with
      | d r s =>
        cases s
        cases r with
        | lst e r1 =>
          refine ⟨_, _, rfl, .inl ⟨SqL.of (ok.fh _ _ e), fun p hp => ?_⟩⟩
          obtain ⟨o', l, rp⟩ := ok.tupN hp r1
          exact k _ _ _ _ ho l o' (.of rp)
    · cases rx with
      | d r s =>
        cases s
        cases r with
        | tup e r1 => exact ⟨_, _, rfl, .inr ⟨e.sq hk ok.fh, k _ F _ H ho (Le.refl F) ok (.of (.tup e r1))⟩⟩
    · exact ho.elim⟩
theorem RpA.ints {F : Hp} : ∀ {vs : List V} {ns : List Int}, RpA F vs (ns.map .int) → vs = ns.map V.int
  | _, [], .nil => rfl
  | _, n :: ns, .cons a b => by
    cases a
    rw [List.map_cons, RpA.ints b]
def max2 (i j : Int) : Int := if i < j then j else i
def max2C : CD := fun rs P => match rs with
  | [.d (.int i), .d (.int j)] => P (.d (.int (if i < j then j else i)))
  | _ => False
def min2C : CD := fun rs P => match rs with
  | [.d (.int i), .d (.int j)] => P (.d (.int (if j < i then j else i)))
  | _ => False
theorem cl_min2 (hc : X.calm = true) : ClD X Δ (.builtin "min") min2C :=
  ⟨_, call_min2 hc, fun am F σ H c vs rs P Q ok rx ho k => by
    unfold min2C at ho
    split at ho
    · cases rx with
      | d r s =>
        cases s with
        | d r' s =>
          cases s
          cases r
          cases r'
          exact ⟨_, _, rfl, k _ F _ H ho (Le.refl F) ok (.of (.int _))⟩
    · exact ho.elim⟩
def max3C : CD := fun rs P => match rs with
  | [.d (.int i), .d (.int j), .d (.int l)] => P (.d (.int (max2 (max2 i j) l)))
  | _ => False
/-! isinstance(x, T) of a built-in class -/
def kindD : Px → String
  | .none => "NoneType"
  | .bool _ => "bool"
  | .int _ => "int"
  | .str _ => "str"
  | .list _ => "list"
  | .tuple _ => "tuple"
  | .dict _ => "?"
def isiD (T : String) (x : Px) : Bool := (kitB (kindD x) T).getD false
def eIsi (T : String) (f : WE) : WE := fun c P X => f c (fun r c1 => asD r fun x => kitB (kindD x) T = some (isiD T x) ∧ P (.d (.bool (isiD T x))) c1) X
end
end Dl
set_option Elab.async false
set_option maxRecDepth 100000
set_option linter.all false
set_option autoImplicit false
namespace Dl
open PySem L2
variable [TabF]
section
variable {X : Cx} {Δ : Dx} {a b e : Expr} {fa fb fc : WE} {pos : Pos} {es : List Expr} {fr : WA}
/-! ### an item -/
def ixD (x y : Px) (k : Px → Prop) : Prop := match x, y with
  | .list xs, .int i => (match atI xs i with | some z => k z | none => False)
  | .tuple xs, .int i => (match atI xs i with | some z => k z | none => False)
  | _, _ => False
theorem RpA.at {F : Hp} {vs : List V} {xs : List Px} {i : Int} {z : Px} (r : RpA F vs xs) (h : atI xs i = some z) : ∃ v, atI vs i = some v ∧ Rp F v z := by
  unfold atI at h ⊢
  rw [r.length]
  cases e : ixN xs.length i with
  | none => rw [e] at h; cases h
  | some j =>
    rw [e] at h
    exact r.get h
def eIx (fa fb : WE) : WE := fun c P X => fa c (fun r1 c1 => asD r1 fun x => fb c1 (fun r2 c2 => asD r2 fun y => ixD x y fun z => P (.d z) c2) X) X
def eIxN (i : Nat) (fb : WE) : WE := fun c P X => hasD c i ∧ fb c (fun r2 c2 => asD r2 fun y => slotD c2 i fun x => ixD x y fun z => P (.d z) c2) X
theorem de_ix (ha : PE X a (tE Δ fa)) (hb : PE X b (tE Δ fb)) (hs : PlainIx b) (hk : X.K = TabF.K := by first | rfl | assumption) : PE X (.Subscript a b pos) (tE Δ (eIx fa fb)) := by
  refine (pe_ix ix_seq ha hb hs).imp fun σ H Q ⟨am, F, c, P, XX, ok, hf, kq, kx⟩ => ?_
  refine ⟨am, F, c, _, XX, ok, hf, fun r1 c1 F1 v1 H1 p1 l1 o1 s1 => ?_, kx⟩
  obtain ⟨x, F1', hx, l1', o1', rp1⟩ := s1.data o1 p1
  refine ⟨am, F1', c1, _, XX, o1', hx, fun r2 c2 F2 v2 H2 p2 l2 o2 s2 => ?_, kx.le (l1.trans l1')⟩
  obtain ⟨y, F2', hy, l2', o2', rp2⟩ := s2.data o2 p2
  have rp1 := rp1.mono (l2.trans l2')
  unfold ixD at hy
  split at hy
  · split at hy
    · rename_i z ez
      cases rp1 with
      | lst e1 r1 =>
        cases rp2
        obtain ⟨v, ev, rv⟩ := r1.at ez
        exact .inl ⟨_, _, _, v, rfl, rfl, SqL.of (o2'.fh _ _ e1), ev, kq _ c2 F2' v H2 hy (((l1.trans l1').trans l2).trans l2') o2' (.of rv)⟩
    · exact hy.elim
  · split at hy
    · rename_i z ez
      cases rp1 with
      | tup e1 r1 =>
        cases rp2
        obtain ⟨v, ev, rv⟩ := r1.at ez
        exact .inr (.inl ⟨_, _, _, v, rfl, rfl, e1.sq hk o2'.fh, ev, kq _ c2 F2' v H2 hy (((l1.trans l1').trans l2).trans l2') o2' (.of rv)⟩)
    · exact hy.elim
  · exact hy.elim
theorem de_ixN (i : Nat) {x : Str} {p : Pos} (hb : PE X b (tE Δ fb)) (hs : PlainIx b) (hN : X.N[i]? = some x := by rfl)
    (hv : Vis X.env.scope x := by first | exact Or.inl rfl | exact Or.inr (Or.inl rfl) | exact Or.inr (Or.inr rfl)) (hd : (x == ("__debug__" : Str)) = false := by decide)
    (hcd : (x == ("__classdict__" : Str)) = false := by decide) (hk : X.K = TabF.K := by first | rfl | assumption) : PE X (.Subscript (.Name x p) b pos) (tE Δ (eIxN i fb)) := by
  refine (pe_ix ix_seq (pv i hN hv hd hcd) hb hs).imp fun σ H Q ⟨am, F, c, P, XX, ok, ⟨hd, hf⟩, kq, kx⟩ => ?_
  obtain ⟨_, v, _, hv, _⟩ := ok.look hd
  refine ⟨v, hv, am, F, c, _, XX, ok, hf, fun r2 c2 F2 v2 H2 p2 l2 o2 s2 => ?_, kx⟩
  obtain ⟨y, F2', hy, l2', o2', rp2⟩ := s2.data o2 p2
  obtain ⟨x, w, G, e1, hx, l3, l4, rpx, kl, kt⟩ := o2'.look hy
  rw [hv] at e1
  cases e1
  unfold ixD at hx
  split at hx
  · split at hx
    · rename_i z ez
      obtain ⟨a, vs, rfl, ea, r1⟩ := kl _ rfl
      cases rp2
      obtain ⟨u, ev, rv⟩ := r1.at ez
      exact .inl ⟨_, _, _, u, rfl, rfl, SqL.of ea, ev, kq _ c2 F2' u H2 hx (l2.trans l2') o2' (.of rv)⟩
    · exact hx.elim
  · split at hx
    · rename_i z ez
      obtain ⟨a, vs, rfl, ea, r1⟩ := kt _ rfl
      cases rp2
      obtain ⟨u, ev, rv⟩ := r1.at ez
      exact .inr (.inl ⟨_, _, _, u, rfl, rfl, ea.sq hk (by first | exact o2'.fh | exact o3.fh | exact ok.fh), ev, kq _ c2 F2' u H2 hx (l2.trans l2') o2' (.of rv)⟩)
    · exact hx.elim
  · exact hx.elim
/-! ### slices -/
abbrev WO := Cf → (Option Int → Cf → Prop) → XP → Prop
def oNone : WO := fun c P _ => P none c
def oSome (f : WE) : WO := fun c P X => f c (fun r c1 => match r with
  | .d (.int i) => P (some i) c1
  | _ => False) X
def tO (Δ : Dx) (f : WO) : TO := fun σ H Q => ∃ am F c P X, Ok Δ am F σ H c ∧ f c P X ∧ (∀ o c' F' H', P o c' → Le F F' → Ok Δ am F' σ H' c' → Q o H') ∧ KX Δ am F X
theorem _root_.L2.PO.imp {e : Option Expr} {t t' : TO} (h : PO X e t) (w : ∀ σ H Q, t' σ H Q → t σ H Q) : PO X e t' :=
  ⟨fun pins s σ H Q I q => h.run pins s σ H Q I (w σ H Q q)⟩
theorem do_none : PO X none (tO Δ oNone) := po_none.imp fun σ H Q ⟨am, F, c, P, XX, ok, hf, kq, kx⟩ => kq _ c F H hf (Le.refl F) ok
theorem do_some (h : PE X e (tE Δ fa)) : PO X (some e) (tO Δ (oSome fa)) := by
  refine (po_some h).imp fun σ H Q ⟨am, F, c, P, XX, ok, hf, kq, kx⟩ => ?_
  refine ⟨am, F, c, _, XX, ok, hf, fun r1 c1 F1 v1 H1 p1 l1 o1 s1 => ?_, kx⟩
  dsimp only at p1
  split at p1
  · have h1 := s1.1
    cases h1
    exact ⟨_, rfl, kq _ c1 F1 H1 p1 l1 o1⟩
  · exact p1.elim
def cutX {α : Type} (xs : List α) (lo hi : Option Int) : List α := (xs.drop (HT.sIx xs.length 0 lo)).take (HT.sIx xs.length xs.length hi - HT.sIx xs.length 0 lo)
theorem cut_whole {α : Type} {xs : List α} {lo hi : Option Int} (h1 : HT.sIx xs.length 0 lo = 0) (h2 : HT.sIx xs.length xs.length hi = xs.length) : cutX xs lo hi = xs := by
  unfold cutX
  rw [h1, h2]
  simp
theorem RpA.cut {F : Hp} {vs : List V} {xs : List Px} (r : RpA F vs xs) (lo hi : Option Int) : RpA F (cutV vs lo hi) (cutX xs lo hi) := by
  unfold cutV cutX
  rw [r.length]
  exact (r.drop _).take _
/-- a list's slice is a new list; a tuple's, where it isn't the whole, a new tuple -/
def slD (x : Px) (lo hi : Option Int) (k : Rv → Prop) : Prop := match x with
  | .list xs => k (.own (cutX xs lo hi))
  | .tuple xs => k (.d (.tuple (cutX xs lo hi)))
  | _ => False
def eSl (fa : WE) (fl fh : WO) : WE := fun c P X => fa c (fun r1 c1 => asD r1 fun x => fl c1 (fun lo c2 => fh c2 (fun hi c3 => slD x lo hi fun r => P r c3) X) X) X
def eSlN (i : Nat) (fl fh : WO) : WE := fun c P X => hasD c i ∧ fl c (fun lo c2 => fh c2 (fun hi c3 => slotD c3 i fun x => slD x lo hi fun r => P r c3) X) X
theorem _root_.Dl.Ok.tupF {am : Addr} {F : Hp} {σ : St} {H : Hp} {c : Cf} (k : Ok Δ am F σ H c) {i : Nat} {q : Px → Prop} (h : slotD c i q) {a : Addr} {vs : List V} {xs : List Px} (hv : σ[i]? = some (some (.ref a))) (ea : TupF F a vs) (r1 : RpA F vs xs) : Rp F (.ref a) (.tuple xs) := .tup ea r1
theorem sl_or : SlR X (fun x lo hi H Q => rSlL X.K x lo hi H Q ∨ rSlA X.K x lo hi H Q) := SlR.or sl_list sl_tupA
section
variable {lo hi : Option Expr} {fl fh : WO} {p2 : Pos}
theorem de_sl (ha : PE X a (tE Δ fa)) (hl : PO X lo (tO Δ fl)) (hh : PO X hi (tO Δ fh)) (hk : X.K = TabF.K := by first | rfl | assumption) : PE X (.Subscript a (.Slice lo hi none p2) pos) (tE Δ (eSl fa fl fh)) := by
  refine (pe_slice sl_or ha hl hh).imp fun σ H Q ⟨am, F, c, P, XX, ok, hf, kq, kx⟩ => ?_
  refine ⟨am, F, c, _, XX, ok, hf, fun r1 c1 F1 v1 H1 p1 l1 o1 s1 => ?_, kx⟩
  obtain ⟨x, F1', hx, l1', o1', rp1⟩ := s1.data o1 p1
  refine ⟨am, F1', c1, _, XX, o1', hx, fun u c2 F2 H2 p2 l2 o2 => ?_, kx.le (l1.trans l1')⟩
  refine ⟨am, F2, c2, _, XX, o2, p2, fun w c3 F3 H3 p3 l3 o3 => ?_, kx.le ((l1.trans l1').trans l2)⟩
  have rp1 := rp1.mono (l2.trans l3)
  have ll := ((l1.trans l1').trans l2).trans l3
  unfold slD at p3
  split at p3
  · cases rp1 with
    | lst e1 r1 =>
      refine .inl ⟨_, _, rfl, SqL.of (o3.fh _ _ e1), fun p hp => ?_⟩
      obtain ⟨o', rs⟩ := Rs.fresh o3 hp (r1.cut u w)
      exact kq _ c3 F3 _ _ p3 ll o' rs
  · cases rp1 with
    | tup e1 r1 =>
      refine .inr ⟨_, _, rfl, e1.sq hk o3.fh, fun hw => ?_, fun _ p hp => ?_⟩
      · rw [r1.length] at hw
        rw [cut_whole hw.1 hw.2] at p3
        exact kq _ c3 F3 _ _ p3 ll o3 (.of (.tup e1 r1))
      · obtain ⟨o', l, rp⟩ := o3.tupN hp (r1.cut u w)
        exact kq _ c3 _ _ _ p3 (ll.trans l) o' (.of rp)
  · exact p3.elim
theorem de_slN (i : Nat) {x : Str} {p : Pos} (hl : PO X lo (tO Δ fl)) (hh : PO X hi (tO Δ fh)) (hN : X.N[i]? = some x := by rfl)
    (hv : Vis X.env.scope x := by first | exact Or.inl rfl | exact Or.inr (Or.inl rfl) | exact Or.inr (Or.inr rfl)) (hd : (x == ("__debug__" : Str)) = false := by decide)
    (hcd : (x == ("__classdict__" : Str)) = false := by decide) (hk : X.K = TabF.K := by first | rfl | assumption) : PE X (.Subscript (.Name x p) (.Slice lo hi none p2) pos) (tE Δ (eSlN i fl fh)) := by
  refine (pe_slice sl_or (pv i hN hv hd hcd) hl hh).imp fun σ H Q ⟨am, F, c, P, XX, ok, ⟨hd, hf⟩, kq, kx⟩ => ?_
  obtain ⟨_, v, _, hv, _⟩ := ok.look hd
  refine ⟨v, hv, am, F, c, _, XX, ok, hf, fun u c2 F2 H2 p2 l2 o2 => ?_, kx⟩
  refine ⟨am, F2, c2, _, XX, o2, p2, fun w c3 F3 H3 p3 l3 o3 => ?_, kx.le l2⟩
  obtain ⟨x, v', G, e1, hx, l4, l5, rpx, kl, kt⟩ := o3.look p3
  rw [hv] at e1
  cases e1
  have p4 := p3
  unfold slD at hx
  split at hx
  · obtain ⟨a, vs, rfl, ea, r1⟩ := kl _ rfl
    refine .inl ⟨_, _, rfl, SqL.of ea, fun p hp => ?_⟩
    obtain ⟨o', rs⟩ := Rs.fresh o3 hp (r1.cut u w)
    exact kq _ c3 F3 _ _ hx (l2.trans l3) o' rs
  · obtain ⟨a, vs, rfl, ea, r1⟩ := kt _ rfl
    refine .inr ⟨_, _, rfl, ea.sq hk (by first | exact o2'.fh | exact o3.fh | exact ok.fh), fun hw => ?_, fun _ p hp => ?_⟩
    · rw [r1.length] at hw
      rw [cut_whole hw.1 hw.2] at hx
      exact kq _ c3 F3 _ _ hx (l2.trans l3) o3 (.of (o3.tupF p4 hv ea r1))
    · obtain ⟨o', l, rp⟩ := o3.tupN hp (r1.cut u w)
      exact kq _ c3 _ _ _ hx ((l2.trans l3).trans l) o' (.of rp)
  · exact hx.elim
end
/-! ### a name's own list + .. -/
def catD : OD := fun x y P => match x, y with
  | .list xs, .list ys => xs.length + ys.length ≤ 1000000 ∧ P (.own (xs ++ ys))
  | .int i, .int j => P (.d (.int (i + j)))
  | .tuple xs, .tuple ys => xs.length + ys.length ≤ 1000000 ∧ P (.d (.tuple (xs ++ ys)))
  | _, _ => False
def eAddN (i : Nat) (fb : WE) : WE := fun c P X => hasD c i ∧ fb c (fun r2 c2 => asD r2 fun y => slotD c2 i fun x => catD x y fun r => P r c2) X
theorem de_addN (i : Nat) {x : Str} {p : Pos} (hK : Δ.K = X.K) (hb : PE X b (tE Δ fb)) (hN : X.N[i]? = some x := by rfl)
    (hv : Vis X.env.scope x := by first | exact Or.inl rfl | exact Or.inr (Or.inl rfl) | exact Or.inr (Or.inr rfl)) (hd : (x == ("__debug__" : Str)) = false := by decide)
    (hcd : (x == ("__classdict__" : Str)) = false := by decide) (hk : X.K = TabF.K := by first | rfl | assumption) : PE X (.BinOp (.Name x p) .Add b pos) (tE Δ (eAddN i fb)) := by
  refine (pe_op (OpR.or (OpR.or op_add op_cat) op_catA) (pv i hN hv hd hcd) hb).imp fun σ H Q ⟨am, F, c, P, XX, ok, ⟨hd, hf⟩, kq, kx⟩ => ?_
  obtain ⟨_, v, _, hv, _⟩ := ok.look hd
  refine ⟨v, hv, am, F, c, _, XX, ok, hf, fun r2 c2 F2 v2 H2 p2 l2 o2 s2 => ?_, kx⟩
  obtain ⟨y, F2', hy, l2', o2', rp2⟩ := s2.data o2 p2
  obtain ⟨x, w, G, e1, hx, l3, l4, rpx, kl, kt⟩ := o2'.look hy
  rw [hv] at e1
  cases e1
  have ll := l2.trans l2'
  unfold catD at hx
  split at hx
  · obtain ⟨a, vs, rfl, ea, r1⟩ := kl _ rfl
    cases rp2 with
    | lst e2 r2 =>
      refine .inl (.inr ⟨_, _, _, _, rfl, rfl, ea, o2'.fh _ _ e2, line_of (by rw [r1.length, r2.length]; exact hx.1), fun p hp => ?_⟩)
      obtain ⟨o', rs⟩ := Rs.fresh o2' hp (r1.append r2)
      exact kq _ c2 F2' _ _ hx.2 ll o' rs
  · cases rpx
    cases rp2
    exact .inl (.inl ⟨_, _, rfl, rfl, kq _ c2 F2' _ H2 hx ll o2' (.of (.int _))⟩)
  · rename_i xs ys
    obtain ⟨a, vs, rfl, ea, r1⟩ := kt _ rfl
    cases rp2 with
    | tup e2 r2 =>
      refine .inr ⟨_, _, _, _, rfl, rfl, ea.sq hk (by first | exact o2'.fh | exact o3.fh | exact ok.fh), e2.sq hk o2'.fh, line_of (by rw [r1.length, r2.length]; exact hx.1), fun z => ?_, fun _ z => ?_, fun _ _ p hp => ?_⟩
      · have := r1.length
        rw [z] at this
        have e0 : xs = [] := List.length_eq_zero_iff.mp this.symm
        subst e0
        exact kq _ c2 F2' _ H2 hx.2 ll o2' (.of (.tup e2 r2))
      · have := r2.length
        rw [z] at this
        have e0 : ys = [] := List.length_eq_zero_iff.mp this.symm
        subst e0
        have h3 := hx.2
        rw [List.append_nil] at h3
        exact kq _ c2 F2' _ H2 h3 ll o2' (.of (o2'.tupF hy hv ea r1))
      · obtain ⟨o', l, rp⟩ := o2'.tupN hp (r1.append r2)
        exact kq _ c2 _ _ _ hx.2 (ll.trans l) o' (.of rp)
  · exact hx.elim
end
end Dl
set_option Elab.async false
set_option maxRecDepth 100000
set_option linter.all false
set_option autoImplicit false
/-! Promises of defs that are called where no repr is under way. -/
namespace Dl
open PySem L2 PySem.Spec PyProof.Rows
variable [TabF]
structure RoomG (k : Nat) (A : Around) : Prop extends Room k A where
  gd : A.guards = some []
theorem RoomG.mono {j k : Nat} {A : Around} (r : RoomG k A) (h : j ≤ k) : RoomG j A := ⟨r.toRoom.mono h, r.gd⟩
theorem RoomG.deeper {k : Nat} {A : Around} (r : RoomG (k + 1) A) (env : Env) : RoomG k (A.deeper env) := ⟨r.toRoom.deeper env, r.gd⟩
structure FnG (P : Program) (w : World) (K : PySem.W.Frag) (mg : Str → Option Value) (base : Heap) (CX : CXT) (k : Nat) (f : Addr) (fd : FuncData) (ps : List Str) (sp : Sp) : Prop where
  len : ∀ vs H Q E, sp vs H Q E → vs.length = ps.length
  run : ∀ {A : Around} {outer : List Env} {s : Shared} {H : Hp} {args : Args} {us : List Value} {vs : List V} {Q : VK} {E : XK}, RoomG k A → Env0 P w K mg base A outer s H → BindsTo s fd args (ps.zip us) → Vals vs us → sp vs H Q E →
    codeAny (model P w) A (.call (.ref f) args) (CR CX outer P w H s Q E) s
section
variable {P : Program} {w : World} {K : PySem.W.Frag} {mg : Str → Option Value} {base : Heap} {CX : CXT} {k : Nat} {f : Addr} {fd : FuncData} {ps : List Str} {sp : Sp}
theorem fnG_of {x qual : Str} {params : Arguments} {body : List Stmt} {scope : Scope} {dvs : List V} {kws : List (Str × V)} {N : List Str} (F : FunD K x qual params body scope dvs kws f fd) (S : FnScope N ps scope) (len : ∀ vs H Q E, sp vs H Q E → vs.length = ps.length)
    (hb : ∀ (cdv : Value) (A : Around) (outer : List Env) (s : Shared) (H : Hp) (vs : List V) (Q : VK) (E : XK), RoomG k (A.deeper (envOfC qual scope s.heap.objs.size f cdv)) → sp vs H Q E →
      ∃ t, PSs (cxOf CX P w K mg base N qual scope f cdv A outer s H E) body t ∧ t { nx := fun _ H' => Q .non H', rt := Q } (start N vs) H) : FnG P w K mg base CX (k + 1) f fd ps sp := by
  obtain ⟨_, _, _, _, _, _, _, cdv, _, _, rfl, look, code, _, _⟩ := F.ex
  refine ⟨len, fun {A outer s H args us vs Q E} room e0 bind rel want => ?_⟩
  have stay : ∀ b o, base.get? b = some o → s.heap.get? b = some o := fun b o e => (e0.bs b o e).1
  have kin : K.In s.heap := e0.mod.kin.keeps stay
  refine codeAny_call_function room.depth (kin _ _ look) rfl S.co S.gen rfl (PySem.W.codeRec_of kin code) (bind _ _ _ _ ?_)
  refine wpAny_newFunctionEnv_cells S.kind (fun y hy => ?_) fun env he s1 x => ?_
  · rcases S.par y.1 (List.of_mem_zip hy).1 with q | q
    · exact .inl q
    · exact .inr ⟨q, PySem.W.cellsFrom_some _ _ _ (.inl q)⟩
  · subst he
    obtain ⟨t, run, ok⟩ := hb cdv A outer s H vs Q E (room.deeper _) want
    have I : Inv (cxOf CX P w K mg base N qual scope f cdv A outer s H E) [] (L2.start N vs) H s1 := inv_start S room.hd e0 (len _ _ _ _ want) rel x
    refine ⟨(e0.mod.nolimit.keeps stay).keeps x.toInCall.keep, codeAny_func (wpAny_mono (run.run [] s1 (start N vs) H _ I ok) (fun fl s' got => ?_) fun _ _ got => got)⟩
    have fin : ∀ {σ' : L2.St} {H' : Hp} {v : V} {u : Value}, Inv (cxOf CX P w K mg base N qual scope f cdv A outer s H E) [] σ' H' s' → RelV v u → Q v H' → CE outer P w H s Q u s' := fun J r q => ⟨_, _, J.os, J.bare, J.base, J.hok, r, q⟩
    cases fl with
    | ret u =>
      obtain ⟨_, _, _, J, r, q⟩ := got
      exact fin J r q
    | next =>
      obtain ⟨_, _, J, q⟩ := got
      exact fin (v := .non) (u := .none) J rfl q
    | brk => obtain ⟨_, _, _, q⟩ := got; exact q.elim
    | cont => obtain ⟨_, _, _, q⟩ := got; exact q.elim
end
section
variable {X : Cx} {CX : CXT} {k : Nat} {f : Addr} {fd : FuncData} {ps : List Str} {sp : Sp} {E : XK} {x : Str} {p pos : Pos} {e : Expr} {es : List Expr} {t : TA}
theorem run_fnG {pins : List (Addr × Obj)} {σ : L2.St} {H : Hp} {s : Shared} {Q : VK} {us : List Value} {vs : List V} (F : FnG X.prog X.w X.K X.mg X.base CX k f fd ps sp) (hr : RoomG k X.A) (hb : Binds X.K fd ps []) (hx : Passes CX X E)
    (I : Inv X pins σ H s) (r : Vals vs us) (h : sp vs H Q E) : wpAny (model X.prog X.w) X.A (call (.ref f) us) (EP X pins σ Q) X.xe s := by
  have hl : us.length = ps.length := r.length.symm.trans (F.len _ _ _ _ h)
  have bind := hb s us I.kIn (by rw [List.append_nil]; exact hl)
  rw [List.append_nil] at bind
  refine wpAny_call (codeAny_mono (F.run hr I.env0 bind r h) fun end_ s' got => ?_)
  match end_, got with
  | .error e, got => exact hx pins σ H s e s' I got
  | .ok (.ret u), got => exact I.after got
theorem pe_callX (F : FnG X.prog X.w X.K X.mg X.base CX k f fd ps sp) (hr : RoomG k X.A) (hg : Gl X x) (hm : X.mg x = some (.ref f)) (hk : PySem.W.keepIn X.K (.ref f) = true) (hb : Binds X.K fd ps []) (hx : Passes CX X E)
    (ha : PA X (e :: es) t) (hdb : (x == ("__debug__" : Str)) = false := by decide) (he : starEach (e :: es) X.env = (false, eval e X.env) :: starEach es X.env := by rfl) (hpl : (backTo pos (starEach es X.env)).any (·.1) = false := by rfl) :
    PE X (.Call (.Name x p) (e :: es) [] pos) (tCall sp [] E t) :=
  ⟨fun pins s σ H Q I h => wpAny_Call_Name_kw (ld_glob I hg hm (PySem.W.callWith_K (h₀ := X.base) I.ok.mod.kin hk (thn (ha.run pos pins s σ H _ I h) fun us s1 ⟨vs, H1, I1, r, q⟩ => ⟨I1.kIn, run_fnG F hr hb hx I1 r (by rw [← List.append_nil vs]; exact q)⟩) he hpl) hdb)⟩
end
/-! ### the law itself -/
end Dl
set_option Elab.async false
set_option maxRecDepth 100000
set_option linter.all false
set_option autoImplicit false
namespace Dl
open PySem L2
variable [TabF]
/-! ### contracts -/
abbrev Cn := List Rv → Option Nat → (Rv → Option Nat → Prop) → Prop
def dx0 (K : PySem.W.Frag) (am : Addr) (g : Option Nat) (F H : Hp) : Dx := ⟨K, g.map fun _ => am, F, unT H, fun _ _ _ _ _ => False⟩
def spD (K : PySem.W.Frag) (Pr : Cn) : Sp := fun vs H Q _ => ∃ am F rs g P, Le F H ∧ Tb0 K F H ∧ (∀ n, g = some n → F am = none ∧ GenAt F H am n) ∧ Rss (dx0 K am g F H) am F rs vs ∧ Pr rs g P ∧
  ∀ r g' am' F' v H', P r g' → Le F F' → Fin (dx0 K am g F H) am' F' H' g' → Sl (dx0 K am g F H) am' F' H' r v → Q v H'
structure CalD (P : Program) (w : World) (K : PySem.W.Frag) (mg : Str → Option Value) (base : Heap) (k : Nat) (x : Str) (Pr : Cn) : Prop where
  ex : ∃ (f : Addr) (fd : FuncData) (ps : List Str), FnG P w K mg base CX0 k f fd ps (spD K Pr) ∧ mg x = some (.ref f) ∧ PySem.W.keepIn K (.ref f) = true ∧ Binds K fd ps []
theorem Rss.to {Δ Δ' : Dx} {am am' : Addr} {F : Hp} (hk : Δ.K = Δ'.K) : ∀ {rs : List Rv} {vs : List V}, (Rv.gen ∈ rs → am = am') → Rss Δ am F rs vs → Rss Δ' am' F rs vs
  | _, _, _, .nil => .nil
  | _, _, h, .d a b => .d a (Rss.to hk (fun z => h (List.mem_cons_of_mem _ z)) b)
  | _, _, h, .gen b => by
    have e := h List.mem_cons_self
    subst e
    exact .gen (Rss.to hk (fun _ => rfl) b)
  | _, _, h, .scr a b => .scr (hk ▸ a) (Rss.to hk (fun z => h (List.mem_cons_of_mem _ z)) b)
section
variable {X : Cx} {Δ : Dx} {a b e : Expr} {fa fb fc : WE} {pos : Pos} {es : List Expr} {fr : WA}
/-- behind a call: g the state that was handed over (none: it was not) -/
theorem Ok.back {am : Addr} {F : Hp} {σ : St} {H : Hp} {c : Cf} (k : Ok Δ am F σ H c) {g g' : Option Nat} {am' : Addr} {F' H' : Hp} {r : Rv} {v : V} (hg : g = none ∨ g = c.g) (l : Le F F')
    (fn : Fin (dx0 Δ.K am g F H) am' F' H' g') (s : Sl (dx0 Δ.K am g F H) am' F' H' r v) (ng : r ≠ .gen) :
    Ok Δ am F' σ H' { c with g := if g.isSome then g' else c.g } ∧ Rs Δ am F' σ H' { c with g := if g.isSome then g' else c.g } r v := by
  have pr : ∀ b o, H b = some o → b ≠ am ∨ g = none → (∀ ps, o ≠ .tbl ps) → H' b = some o := fun b o e h nt => fn.pr b o (unT_to e nt) (by
    cases g with
    | none => exact fun z => nomatch z
    | some n =>
      rcases h with h | h
      · intro z
        have z' : some am = some b := z
        cases z'
        exact h rfl
      · cases h)
  have own : ∀ a vs, H a = some (.lst vs) → H' a = some (.lst vs) := fun a vs e => by
    cases g with
    | none => exact pr a _ e (.inr rfl) lst_ok.1
    | some n =>
      rcases hg with h | h
      · cases h
      · exact pr a _ e (.inl ((k.gn n h.symm).2.2.ne e)) lst_ok.1
  have fr : ∀ b, F' b ≠ none → F b ≠ none ∨ unT H b = none := fn.fr
  have nf : ∀ b o, H b = some o → F b = none → (∀ ps, o ≠ .tbl ps) → F' b = none := fun b o e n nt => by
    cases q : F' b with
    | none => rfl
    | some u =>
      rcases fr b (by rw [q]; exact fun z => nomatch z) with z | z
      · exact absurd n z
      · rw [unT_to e nt] at z; cases z
  have new : ∀ b, unT H b = none → Δ.H0 b = none := fun b e => by
    rcases unT_none e with e | ⟨ps, e⟩
    · exact k.new e
    · cases q : Δ.H0 b with
      | none => rfl
      | some o =>
        by_cases na : Δ.a0 = some b
        · obtain ⟨⟨u, h1, h2⟩, _⟩ := k.al b na
          rw [e] at h1
          exact absurd (Option.some.inj h1).symm (h2 ps)
        · have h1 := k.pr b o q na
          rw [e] at h1
          rw [← Option.some.inj h1] at q
          exact absurd q (k.tb.2.2 b ps)
  have gnew : ∀ n, (if g.isSome then g' else c.g) = some n → (Δ.a0 = some am ∨ (Δ.a0 = none ∧ Δ.H0 am = none)) ∧ F' am = none ∧ GenAt F' H' am n := fun n e => by
    cases g with
    | none =>
      have e : c.g = some n := e
      obtain ⟨h1, h2, h3⟩ := k.gn n e
      obtain ⟨left, sd, sp, ac, ns, h4, h5, h6⟩ := id h3
      exact ⟨h1, nf _ _ h4 h2 dK_ok.1, left, sd, sp, ac, ns, pr _ _ h4 (.inr rfl) dK_ok.1, l _ _ h5, h6⟩
    | some m =>
      have e : g' = some n := e
      have hc : c.g = some m := by
        rcases hg with h | h
        · cases h
        · exact h.symm
      obtain ⟨h1, h2, h3⟩ := k.gn m hc
      obtain ⟨h4, h5, h6⟩ := fn.gn n e
      have ea : am = am' := by
        rcases h4 with z | z
        · have z' : some am = some am' := z
          cases z'; rfl
        · have z' : (some am : Option Addr) = none := z.1
          cases z'
      subst ea
      exact ⟨h1, h5, h6⟩
  have hpr : ∀ b o, Δ.H0 b = some o → Δ.a0 ≠ some b → H' b = some o := by
    intro b o e n
    refine fn.pr b o (unT_to (k.pr b o e n) fun ps z => k.tb.2.2 b ps (z ▸ e)) ?_
    cases g with
    | none => exact fun z => nomatch z
    | some m =>
      intro z
      have z' : some am = some b := z
      cases z'
      have hc : c.g = some m := by
        rcases hg with h | h
        · cases h
        · exact h.symm
      rcases (k.gn m hc).1 with q | q
      · exact n q
      · rw [q.2] at e
        cases e
  have hal : ∀ b, Δ.a0 = some b → Lv H' b ∧ Δ.H0 b ≠ none := by
    intro b e
    refine ⟨?_, (k.al b e).2⟩
    obtain ⟨⟨o, q, nt⟩, _⟩ := k.al b e
    cases g with
    | none => exact ⟨o, pr b o q (.inr rfl) nt, nt⟩
    | some m =>
      by_cases z : b = am
      · subst z
        exact (fn.al b rfl).1
      · exact ⟨o, pr b o q (.inl z) nt, nt⟩
  have hsv : ∀ (i : Nat) (r' : Rv), c.env[i]? = some (some r') → ∃ v, σ[i]? = some (some v) ∧ Sl Δ am F' H' r' v := by
    intro i r' e
    obtain ⟨w, h1, h2⟩ := k.sv i r' e
    refine ⟨w, h1, ?_⟩
    cases r' with
    | d x => exact Rp.mono l h2
    | gen => exact h2
    | scr ns =>
      obtain ⟨a, e1, e2⟩ := h2
      exact ⟨a, e1, sq_le l e2⟩
    | own xs =>
      obtain ⟨a, vs, e1, e2, e3, e4, e5⟩ := h2
      exact ⟨a, vs, e1, own a vs e2, nf a _ e2 e3 lst_ok.1, e4, e5.mono l⟩
    | dic D =>
      obtain ⟨a, o, e1, e2, e3, e4, e5⟩ := h2
      refine ⟨a, o, e1, ?_, nf a _ e2 e3 e5.ntbl, e4, e5.mono l⟩
      cases g with
      | none => exact pr a _ e2 (.inr rfl) e5.ntbl
      | some n =>
        rcases hg with h | h
        · cases h
        · exact pr a _ e2 (.inl ((k.gn n h.symm).2.2.neD e2 e5)) e5.ntbl
  have o' : Ok Δ am F' σ H' { c with g := if g.isSome then g' else c.g } :=
    ⟨fn.fh, k.f0.trans l, fun b e => (fr b e).elim (fun z => k.fr b z) fun z => .inr (new b z), ⟨fn.tb.1, fn.tb.2.1, k.tb.2.2⟩, hpr, hal, gnew, k.len, hsv, k.di⟩
  refine ⟨o', ?_⟩
  cases r with
  | d x => exact .of s
  | gen => exact absurd rfl ng
  | scr ns => exact ⟨s, fun z => z.elim⟩
  | dic D =>
    obtain ⟨p, vs, e1, e2, e3, e4, e5⟩ := s
    have e4 : unT H p = none := e4
    refine ⟨⟨p, vs, e1, e2, e3, new p e4, e5⟩, fun _ i zs e mu z => ?_⟩
    subst e1
    obtain ⟨w, h1, s1⟩ := k.sv i _ e
    obtain ⟨a, ws, q1, q2, q3⟩ := s1.atN mu
    subst q1
    rw [z] at h1
    cases h1
    rw [unT_to q2 q3] at e4; cases e4
  | own xs =>
    obtain ⟨p, vs, e1, e2, e3, e4, e5⟩ := s
    have e4 : unT H p = none := e4
    refine ⟨⟨p, vs, e1, e2, e3, new p e4, e5⟩, fun _ i zs e mu z => ?_⟩
    subst e1
    obtain ⟨w, h1, s1⟩ := k.sv i _ e
    obtain ⟨a, ws, q1, q2, q3⟩ := s1.atN mu
    subst q1
    rw [z] at h1
    cases h1
    rw [unT_to q2 q3] at e4; cases e4
/-- f(..), a def by its contract; the drawing state is handed over, or not -/
def eCallP (Pr : Cn) (f : WA) : WE := fun c P X => f c (fun rs c1 => Rv.gen ∉ rs ∧ Pr rs none fun r _ => r ≠ .gen ∧ P r c1) X
def eCallG (Pr : Cn) (f : WA) : WE := fun c P X => f c (fun rs c1 => c1.g.isSome = true ∧ Pr rs c1.g fun r g' => r ≠ .gen ∧ P r { c1 with g := g' }) X
section
variable {k : Nat} {x : Str} {p : Pos} {Pr : Cn}
theorem de_callP (C : CalD X.prog X.w X.K X.mg X.base k x Pr) (hK : Δ.K = X.K) (hr : RoomG k X.A) (hg : Gl X x) (ha : PA X (e :: es) (tA Δ fr)) (hdb : (x == ("__debug__" : Str)) = false := by decide)
    (he : starEach (e :: es) X.env = (false, eval e X.env) :: starEach es X.env := by rfl) (hpl : (backTo pos (starEach es X.env)).any (·.1) = false := by rfl) :
    PE X (.Call (.Name x p) (e :: es) [] pos) (tE Δ (eCallP Pr fr)) := by
  obtain ⟨f, fd, ps, h1, h2, h3, h4⟩ := C.ex
  refine (pe_callX h1 hr hg h2 h3 h4 pass0 ha hdb he hpl).imp fun σ H Q ⟨am, F, c, P, XX, ok, hf, kq, kx⟩ => ?_
  refine ⟨am, F, c, _, XX, ok, hf, fun rs c1 F1 vs H1 p1 l1 o1 s1 => ?_, kx⟩
  show spD X.K Pr (vs ++ []) H1 Q E0
  rw [List.append_nil]
  refine ⟨am, F1, rs, none, _, o1.fh, o1.tbs hK, fun n z => (nomatch z), s1.to hK (fun _ => rfl), p1.2, fun r g' am' F' v H' pr l fn s => ?_⟩
  obtain ⟨o', s'⟩ := o1.back (g := none) (.inl rfl) l (hK ▸ fn) (hK ▸ s) pr.1
  exact kq r c1 F' v H' pr.2 (l1.trans l) o' s'
theorem de_callG (C : CalD X.prog X.w X.K X.mg X.base k x Pr) (hK : Δ.K = X.K) (hr : RoomG k X.A) (hg : Gl X x) (ha : PA X (e :: es) (tA Δ fr)) (hdb : (x == ("__debug__" : Str)) = false := by decide)
    (he : starEach (e :: es) X.env = (false, eval e X.env) :: starEach es X.env := by rfl) (hpl : (backTo pos (starEach es X.env)).any (·.1) = false := by rfl) :
    PE X (.Call (.Name x p) (e :: es) [] pos) (tE Δ (eCallG Pr fr)) := by
  obtain ⟨f, fd, ps, h1, h2, h3, h4⟩ := C.ex
  refine (pe_callX h1 hr hg h2 h3 h4 pass0 ha hdb he hpl).imp fun σ H Q ⟨am, F, c, P, XX, ok, hf, kq, kx⟩ => ?_
  refine ⟨am, F, c, _, XX, ok, hf, fun rs c1 F1 vs H1 p1 l1 o1 s1 => ?_, kx⟩
  show spD X.K Pr (vs ++ []) H1 Q E0
  rw [List.append_nil]
  refine ⟨am, F1, rs, c1.g, _, o1.fh, o1.tbs hK, fun n z => (o1.gn n z).2, s1.to hK (fun _ => rfl), p1.2, fun r g' am' F' v H' pr l fn s => ?_⟩
  obtain ⟨o', s'⟩ := o1.back (g := c1.g) (.inr rfl) l (hK ▸ fn) (hK ▸ s) pr.1
  rw [if_pos p1.1] at o' s'
  exact kq r _ F' v H' pr.2 (l1.trans l) o' s'
end
end
/-! ### a def's body -/
def startC (n : Nat) (rs : List Rv) (g : Option Nat) : Cf := ⟨rs.map some ++ List.replicate (n - rs.length) none, g⟩
theorem Rss.length {Δ : Dx} {am : Addr} {F : Hp} : ∀ {rs : List Rv} {vs : List V}, Rss Δ am F rs vs → rs.length = vs.length
  | _, _, .nil => rfl
  | _, _, .d _ r => congrArg (· + 1) r.length
  | _, _, .gen r => congrArg (· + 1) r.length
  | _, _, .scr _ r => congrArg (· + 1) r.length
theorem Rss.get {Δ : Dx} {am : Addr} {F H : Hp} : ∀ {rs : List Rv} {vs : List V} {i : Nat} {r : Rv}, Rss Δ am F rs vs → rs[i]? = some r → ∃ v, vs[i]? = some v ∧ Sl Δ am F H r v ∧ ¬ r.mu
  | _, _, _, _, .nil, h => by simp at h
  | _, _, 0, _, .d a _, h => by simp at h; subst h; exact ⟨_, rfl, a, fun z => z.elim⟩
  | _, _, 0, _, .gen _, h => by simp at h; subst h; exact ⟨_, rfl, rfl, fun z => z.elim⟩
  | _, _, 0, _, .scr a _, h => by simp at h; subst h; exact ⟨_, rfl, ⟨_, rfl, a⟩, fun z => z.elim⟩
  | _, _, i + 1, _, .d _ b, h => by
    obtain ⟨v, e, q⟩ := Rss.get (i := i) (H := H) b (by simpa using h)
    exact ⟨v, by simpa using e, q⟩
  | _, _, i + 1, _, .gen b, h => by
    obtain ⟨v, e, q⟩ := Rss.get (i := i) (H := H) b (by simpa using h)
    exact ⟨v, by simpa using e, q⟩
  | _, _, i + 1, _, .scr _ b, h => by
    obtain ⟨v, e, q⟩ := Rss.get (i := i) (H := H) b (by simpa using h)
    exact ⟨v, by simpa using e, q⟩
theorem start_get {n : Nat} {rs : List Rv} {g : Option Nat} {i : Nat} {r : Rv} (h : (startC n rs g).env[i]? = some (some r)) : rs[i]? = some r := by
  unfold startC at h
  by_cases hi : i < rs.length
  · rw [List.getElem?_append_left (by simpa using hi), List.getElem?_map] at h
    cases e : rs[i]? with
    | none => rw [e] at h; cases h
    | some x => rw [e] at h; cases h; rfl
  · rw [List.getElem?_append_right (by simpa using hi), List.getElem?_replicate] at h
    split at h <;> cases h
theorem start_ok {K : PySem.W.Frag} {am : Addr} {F H : Hp} {g : Option Nat} {rs : List Rv} {vs : List V} {N : List Str} (fh : Le F H) (tb : Tb0 K F H) (gn : ∀ n, g = some n → F am = none ∧ GenAt F H am n) (s : Rss (dx0 K am g F H) am F rs vs) :
    Ok (dx0 K am g F H) am F (L2.start N vs) H (startC N.length rs g) where
  fh := fh
  f0 := Le.refl F
  fr := fun a h => .inl h
  tb := ⟨tb.1, tb.2, unT_not H⟩
  pr := fun a o e _ => unT_of e
  al := fun a e => by
    cases g with
    | none => cases e
    | some n =>
      have e' : some am = some a := e
      cases e'
      obtain ⟨_, _, _, _, _, e1, _⟩ := (gn n rfl).2
      have lv : Lv H am := ⟨_, e1, dK_ok.1⟩
      exact ⟨lv, lv.un⟩
  gn := fun n e => by
    have e' : g = some n := e
    subst e'
    exact ⟨.inl rfl, gn n rfl⟩
  len := by
    unfold L2.start startC
    simp only [List.length_append, List.length_map, List.length_replicate, s.length]
  sv := fun i r e => by
    obtain ⟨v, h1, h2, _⟩ := s.get (H := H) (start_get e)
    refine ⟨v, ?_, h2⟩
    unfold L2.start
    have hi : i < vs.length := (List.getElem?_eq_some_iff.mp h1).1
    rw [List.getElem?_append_left (by simpa using hi), List.getElem?_map, h1]
    rfl
  di := fun i j r r' _ e _ mu _ => by
    obtain ⟨v, _, _, h⟩ := s.get (H := H) (start_get e)
    exact absurd mu h
def endP (P : Rv → Option Nat → Prop) : Fl → Prop := fun fl => match fl with
  | .nx c => P (.d .none) c.g
  | .rt r g => P r g
  | .bk _ => False
  | .ct _ => False
section
variable {P : Program} {w : World} {K : PySem.W.Frag} {mg : Str → Option Value} {base : Heap}
/-- THE RULE for a def -/
theorem def_ok {x qual : Str} {st : Stmt} {f : Addr} {fd : FuncData} {N ps : List Str} {k : Nat} {Pr : Cn} (nog : Bool) (F : FunD K x qual (defArgs st) (defBody st) (defScope st) [] [] f fd) (S : FnScope N ps (defScope st)) (hmg : mg x = some (.ref f)) (bi : Binds K fd ps [])
    (fw : WS) (len : ∀ rs g Q, Pr rs g Q → rs.length = ps.length) (hn : nog = true → ∀ rs g Q, Pr rs g Q → g = none) (spec : ∀ rs g Q, Pr rs g Q → fw (startC N.length rs g) (endP Q) fun _ _ => False)
    (hbody : ∀ (cdv : Value) (A : Around) (outer : List Env) (s : Shared) (H : Hp) (E : XK) (Δ : Dx), RoomG k (A.deeper (PyProof.Rows.envOfC qual (defScope st) s.heap.objs.size f cdv)) → Δ.K = K → (nog = true → Δ.a0 = none) →
      PSs (cxOf CX0 P w K mg base N qual (defScope st) f cdv A outer s H E).nox (defBody st) (tS Δ fw)) : CalD P w K mg base (k + 1) x Pr := by
  refine ⟨f, fd, ps, fnG_of F S (fun vs H Q E h => ?_) (fun cdv A outer s H vs Q E hr h => ?_), hmg, F.kp, bi⟩
  · obtain ⟨am, G, rs, g, q, _, _, _, h3, h4, _⟩ := h
    rw [← h3.length]
    exact len rs g q h4
  · obtain ⟨am, G, rs, g, q, h1, ht, h2, h3, h4, h5⟩ := h
    refine ⟨_, PSs.nox (hbody cdv A outer s H E (dx0 K am g G H) hr rfl (fun z => by rw [hn z rs g q h4]; rfl)), am, G, _, _, _, start_ok h1 ht h2 h3, spec rs g q h4, ⟨fun c am' F' σ' H' p l o => ?_, fun _ _ _ _ _ z => z.elim, fun _ _ _ _ _ z => z.elim, fun r g' am' F' H' v p l fn s => ?_⟩, fun _ _ _ _ _ z => z.elim⟩
    · exact h5 _ _ am' F' _ H' p l o.fin .non
    · exact h5 r g' am' F' v H' p l fn s
end
end Dl
set_option Elab.async false
set_option maxRecDepth 100000
set_option linter.all false
set_option autoImplicit false
namespace Dl
open PySem L2
variable [TabF]
section
variable {X : Cx} {Δ : Dx} {a b e : Expr} {fa fb fc : WE} {pos : Pos} {es : List Expr} {fr : WA}
/-! ### what is gone through -/
/-- turn i over xs: its value stands over F, or is a new tuple -/
def YD (F : Hp) (xs : List Px) : Nat → Hp → V → Hp → Prop := fun i H v H' => ∃ x, xs[i]? = some x ∧
  ((H' = H ∧ Rp F v x) ∨ ∃ T vs ds, v = .ref T ∧ H T = none ∧ H' = upd H T (.tup vs) ∧ x = .tuple ds ∧ RpA F vs ds)
abbrev WalkX (J : It) (xs : List Px) (F : Hp) : Prop := L2.Walk J xs.length (fun H => Le F H) (YD F xs)
def tI (Δ : Dx) (f : WI) : TI := fun σ H R => ∃ am F c P X, Ok Δ am F σ H c ∧ f c P X ∧
  (∀ xs c' F' H' J, P xs c' → Le F F' → Ok Δ am F' σ H' c' → WalkX J xs F' → R J H') ∧ KX Δ am F X
def asL (r : Rv) (k : List Px → Prop) : Prop := asD r fun x => match x with
  | .list xs => k xs
  | _ => False
def asT (r : Rv) (k : List Px → Prop) : Prop := asD r fun x => match x with
  | .tuple xs => k xs
  | _ => False
def iLst (f : WE) : WI := fun c P X => f c (fun r c1 => asL r fun xs => P xs c1) X
def iTpl (f : WE) : WI := fun c P X => f c (fun r c1 => asT r fun xs => P xs c1) X
theorem asL_of {am : Addr} {F : Hp} {σ : St} {H : Hp} {c : Cf} {r : Rv} {v : V} {q : List Px → Prop} (o : Ok Δ am F σ H c) (s : Rs Δ am F σ H c r v) (h : asL r q) :
    ∃ a vs xs F', v = .ref a ∧ q xs ∧ Le F F' ∧ Ok Δ am F' σ H c ∧ F' a = some (.lst vs) ∧ RpA F' vs xs := by
  obtain ⟨x, F', hx, l, o', rp⟩ := s.data o h
  split at hx
  · cases rp with
    | lst e r1 => exact ⟨_, _, _, F', rfl, hx, l, o', e, r1⟩
  · exact hx.elim
theorem asT_of {am : Addr} {F : Hp} {σ : St} {H : Hp} {c : Cf} {r : Rv} {v : V} {q : List Px → Prop} (o : Ok Δ am F σ H c) (s : Rs Δ am F σ H c r v) (h : asT r q) :
    ∃ a vs xs F', v = .ref a ∧ q xs ∧ Le F F' ∧ Ok Δ am F' σ H c ∧ TupF F' a vs ∧ RpA F' vs xs := by
  obtain ⟨x, F', hx, l, o', rp⟩ := s.data o h
  split at hx
  · cases rp with
    | tup e r1 => exact ⟨_, _, _, F', rfl, hx, l, o', e, r1⟩
  · exact hx.elim
theorem y_at {F : Hp} {vs : List V} {xs : List Px} (r : RpA F vs xs) : ∀ (i : Nat) (H : Hp) (v : V) (H' : Hp), YAt vs i H v H' → YD F xs i H v H' := fun i H v H' ⟨e1, e2⟩ => by
  obtain ⟨x, h1, h2⟩ := r.getV e2
  exact ⟨x, h1, .inl ⟨e1, h2⟩⟩
theorem walk_l {K : PySem.W.Frag} {F : Hp} {a : Addr} {vs : List V} {xs : List Px} (e : F a = some (.lst vs)) (r : RpA F vs xs) : WalkX (Itl K a) xs F := by
  have w : L2.Walk (Itl K a) vs.length (fun H => SqL K H a vs) (YAt vs) := walk_list
  rw [r.length] at w
  exact w.mono (fun H h => SqL.of (h _ _ e)) fun i H v H' _ _ y => y_at r i H v H' y
theorem walk_t {K : PySem.W.Frag} {F : Hp} {a : Addr} {vs : List V} {xs : List Px} (e : TupF F a vs) (r : RpA F vs xs) (hk : K = TabF.K := by first | rfl | assumption) : WalkX (Itt K a) xs F := by
  have w : L2.Walk (Itt K a) vs.length (fun H => SqT K H a vs) (YAt vs) := walk_tup
  rw [r.length] at w
  exact w.mono (fun H h => e.sq hk h) fun i H v H' _ _ y => y_at r i H v H' y
section
variable {tg : Expr}
theorem di_l (ha : PE X a (tE Δ fa)) : PI X tg a (tI Δ (iLst fa)) := by
  refine (pi_list ha).imp fun σ H R ⟨am, F, c, P, XX, ok, hf, kq, kx⟩ => ?_
  refine ⟨am, F, c, _, XX, ok, hf, fun r1 c1 F1 v1 H1 p1 l1 o1 s1 => ?_, kx⟩
  obtain ⟨b, vs, xs, F', e1, hx, l, o', e2, r⟩ := asL_of o1 s1 p1
  exact ⟨b, e1, ⟨vs, SqL.of (o'.fh _ _ e2)⟩, kq xs c1 F' H1 _ hx (l1.trans l) o' (walk_l e2 r)⟩
theorem di_t (ha : PE X a (tE Δ fa)) (hk : X.K = TabF.K := by first | rfl | assumption) : PI X tg a (tI Δ (iTpl fa)) := by
  refine (pi_tup ha).imp fun σ H R ⟨am, F, c, P, XX, ok, hf, kq, kx⟩ => ?_
  refine ⟨am, F, c, _, XX, ok, hf, fun r1 c1 F1 v1 H1 p1 l1 o1 s1 => ?_, kx⟩
  obtain ⟨b, vs, xs, F', e1, hx, l, o', e2, r⟩ := asT_of o1 s1 p1
  exact ⟨b, e1, ⟨vs, e2.sq hk o'.fh⟩, kq xs c1 F' H1 _ hx (l1.trans l) o' (walk_t e2 r)⟩
/-- lo, lo + 1, .. -/
def rngX (lo : Int) : Nat → List Px
  | 0 => []
  | n + 1 => .int lo :: rngX (lo + 1) n
theorem rngX_length : ∀ (lo : Int) (n : Nat), (rngX lo n).length = n
  | _, 0 => rfl
  | lo, n + 1 => congrArg (· + 1) (rngX_length (lo + 1) n)
theorem rngX_get : ∀ (n : Nat) (lo : Int) (i : Nat), i < n → (rngX lo n)[i]? = some (.int (lo + i))
  | n + 1, lo, 0, _ => by simp [rngX]
  | n + 1, lo, i + 1, h => by
    show (rngX (lo + 1) n)[i]? = _
    rw [rngX_get n (lo + 1) i (by omega)]
    rw [show lo + 1 + (i : Int) = lo + ((i + 1 : Nat) : Int) by omega]
theorem walk_r {F : Hp} (lo : Int) (n : Nat) : WalkX (Itr lo n) (rngX lo n) F := by
  have w : L2.Walk (Itr lo n) n (fun _ => True) (YFn fun i => .int (lo + i)) := walk_range
  have w' := w.mono (G' := fun H => Le F H) (Y' := YD F (rngX lo n)) (fun _ _ => True.intro) fun i H v H' hi _ ⟨y1, y2⟩ => ⟨.int (lo + i), rngX_get n lo i hi, .inl ⟨y1, by rw [y2]; exact .int _⟩⟩
  have e := rngX_length lo n
  unfold WalkX
  rw [e]
  exact w'
def smI (i : Int) : Prop := -(2 ^ 62) ≤ i ∧ i < 2 ^ 62
def iRg1 (f : WA) : WI := fun c P X => f c (fun rs c1 => match rs with
  | [.d (.int j)] => smI j ∧ P (rngX 0 j.toNat) c1
  | _ => False) X
def iRg2 (f : WA) : WI := fun c P X => f c (fun rs c1 => match rs with
  | [.d (.int i), .d (.int j)] => smI i ∧ smI j ∧ P (rngX i (j - i).toNat) c1
  | _ => False) X
theorem di_r1 {p : Pos} (hg : Gl X "range") (hm : X.mg "range" = none) (ha : PA X [a] (tA Δ fr)) (hs : starEach [a] X.env = [(false, eval a X.env)] := by rfl) : PI X tg (.Call (.Name "range" p) [a] [] pos) (tI Δ (iRg1 fr)) := by
  refine (pi_range1 hg hm ha hs).imp fun σ H R ⟨am, F, c, P, XX, ok, hf, kq, kx⟩ => ?_
  refine ⟨am, F, c, _, XX, ok, hf, fun rs c1 F1 vs H1 p1 l1 o1 s1 => ?_, kx⟩
  split at p1
  · cases s1 with
    | d r s =>
      cases s
      cases r
      exact ⟨_, rfl, p1.1.1, p1.1.2, kq _ c1 F1 H1 _ p1.2 l1 o1 (walk_r 0 _)⟩
  · exact p1.elim
def enumX (n : Int) : List Px → List Px
  | [] => []
  | x :: xs => .tuple [.int n, x] :: enumX (n + 1) xs
theorem enumX_length : ∀ (n : Int) (xs : List Px), (enumX n xs).length = xs.length
  | _, [] => rfl
  | n, x :: xs => congrArg (· + 1) (enumX_length (n + 1) xs)
theorem enumX_get : ∀ (xs : List Px) (n : Int) (i : Nat) (x : Px), xs[i]? = some x → (enumX n xs)[i]? = some (.tuple [.int (n + i), x])
  | [], _, _, _, h => by simp at h
  | y :: xs, n, 0, x, h => by simp at h; subst h; simp [enumX]
  | y :: xs, n, i + 1, x, h => by
    show (enumX (n + 1) xs)[i]? = _
    rw [enumX_get xs (n + 1) i x (by simpa using h)]
    rw [show n + 1 + (i : Int) = n + ((i + 1 : Nat) : Int) by omega]
theorem walk_e {K : PySem.W.Frag} {F : Hp} {a : Addr} {vs : List V} {xs : List Px} (e : F a = some (.lst vs)) (r : RpA F vs xs) : WalkX (Ite K a) (enumX 0 xs) F := by
  have w : L2.Walk (Ite K a) vs.length (fun H => SqL K H a vs) (YPair (fun i => some (.int (i : Nat))) (fun i => vs[i]?)) := walk_enum
  have w' := w.mono (G' := fun H => Le F H) (Y' := YD F (enumX 0 xs)) (fun H h => SqL.of (h _ _ e)) fun i H v H' hi _ ⟨T, y, z, h1, h2, h3, h4, h5⟩ => by
    obtain ⟨x, q1, q2⟩ := r.getV h5
    have e4 := Option.some.inj h4
    subst e4
    refine ⟨_, enumX_get xs 0 i x q1, .inr ⟨T, _, _, h1, h2, h3, rfl, .cons ?_ (.one q2)⟩⟩
    rw [Int.zero_add]
    exact .int _
  have el := enumX_length 0 xs
  unfold WalkX
  rw [el, ← r.length]
  exact w'
def iEnm (f : WA) : WI := fun c P X => f c (fun rs c1 => match rs with
  | [.d (.list xs)] => P (enumX 0 xs) c1
  | _ => False) X
theorem di_en {p tpos : Pos} {elts : List Expr} {kk : Nat} (hK : Δ.K = X.K) (hg : Gl X "enumerate") (hm : X.mg "enumerate" = none) (ha : PA X [a] (tA Δ fr)) (hs : starEach [a] X.env = [(false, eval a X.env)] := by rfl) :
    PI X (.Tuple elts kk tpos) (.Call (.Name "enumerate" p) [a] [] pos) (tI Δ (iEnm fr)) := by
  refine (pi_enum hg hm ha hs).imp fun σ H R ⟨am, F, c, P, XX, ok, hf, kq, kx⟩ => ?_
  refine ⟨am, F, c, _, XX, ok, hf, fun rs c1 F1 vs H1 p1 l1 o1 s1 => ?_, kx⟩
  split at p1
  · cases s1 with
    | d r s =>
      cases s
      cases r with
      | lst e r1 => exact ⟨_, _, rfl, SqL.of (o1.fh _ _ e), kq _ c1 F1 H1 _ p1 l1 o1 (walk_e e r1)⟩
  · exact p1.elim
def zipX : List Px → List Px → List Px
  | x :: xs, y :: ys => .tuple [x, y] :: zipX xs ys
  | _, _ => []
theorem zipX_length : ∀ xs ys : List Px, (zipX xs ys).length = min xs.length ys.length
  | [], ys => by cases ys <;> simp [zipX]
  | x :: xs, [] => by simp [zipX]
  | x :: xs, y :: ys => by simp [zipX, zipX_length xs ys]
theorem zipX_get : ∀ (xs ys : List Px) (i : Nat) (x y : Px), xs[i]? = some x → ys[i]? = some y → (zipX xs ys)[i]? = some (.tuple [x, y])
  | [], _, _, _, _, h, _ => by simp at h
  | _ :: _, [], _, _, _, _, h => by simp at h
  | a :: xs, b :: ys, 0, x, y, h, h' => by simp at h h'; subst h h'; simp [zipX]
  | a :: xs, b :: ys, i + 1, x, y, h, h' => by
    show (zipX xs ys)[i]? = _
    exact zipX_get xs ys i x y (by simpa using h) (by simpa using h')
theorem walk_z {K : PySem.W.Frag} {F : Hp} {a b : Addr} {vs ws : List V} {xs ys : List Px} (e : F a = some (.lst vs)) (r : RpA F vs xs) (e' : F b = some (.lst ws)) (r' : RpA F ws ys) : WalkX (Itz K a b) (zipX xs ys) F := by
  have w : L2.Walk (Itz K a b) (min vs.length ws.length) (fun H => SqL K H a vs ∧ SqL K H b ws) (YPair (fun i => vs[i]?) (fun i => ws[i]?)) := walk_zip rfl
  have w' := w.mono (G' := fun H => Le F H) (Y' := YD F (zipX xs ys)) (fun H h => ⟨SqL.of (h _ _ e), SqL.of (h _ _ e')⟩) fun i H v H' hi _ ⟨T, y, z, h1, h2, h3, h4, h5⟩ => by
    obtain ⟨x, q1, q2⟩ := r.getV h4
    obtain ⟨x', q1', q2'⟩ := r'.getV h5
    exact ⟨_, zipX_get xs ys i x x' q1 q1', .inr ⟨T, _, _, h1, h2, h3, rfl, .cons q2 (.one q2')⟩⟩
  have el := zipX_length xs ys
  unfold WalkX
  rw [el, ← r.length, ← r'.length]
  exact w'
def iZp (f : WA) : WI := fun c P X => f c (fun rs c1 => match rs with
  | [.d (.list xs), .d (.list ys)] => P (zipX xs ys) c1
  | _ => False) X
theorem di_z {p tpos : Pos} {elts : List Expr} {kk : Nat} (hg : Gl X "zip") (hm : X.mg "zip" = none) (ha : PA X [a, b] (tA Δ fr)) (hs : starEach [a, b] X.env = (false, eval a X.env) :: starEach [b] X.env := by rfl) (hs2 : (backTo pos (starEach [b] X.env)).any (·.1) = false := by rfl) :
    PI X (.Tuple elts kk tpos) (.Call (.Name "zip" p) [a, b] [] pos) (tI Δ (iZp fr)) := by
  refine (pi_zip hg hm ha hs hs2).imp fun σ H R ⟨am, F, c, P, XX, ok, hf, kq, kx⟩ => ?_
  refine ⟨am, F, c, _, XX, ok, hf, fun rs c1 F1 vs H1 p1 l1 o1 s1 => ?_, kx⟩
  split at p1
  · cases s1 with
    | d r s =>
      cases s with
      | d r' s =>
        cases s
        cases r with
        | lst e r1 =>
          cases r' with
          | lst e' r1' => exact ⟨_, _, _, _, rfl, SqL.of (o1.fh _ _ e), SqL.of (o1.fh _ _ e'), kq _ c1 F1 H1 _ p1 l1 o1 (walk_z e r1 e' r1')⟩
  · exact p1.elim
end
/-! ### targets -/
/-- the result at name i -/
def gN (i : Nat) : WG := fun r c P => i < c.env.length ∧ P { c with env := c.env.set i (some r) }
theorem Ok.put {am : Addr} {F : Hp} {σ : St} {H : Hp} {c : Cf} (k : Ok Δ am F σ H c) {r : Rv} {v : V} (s : Rs Δ am F σ H c r v) (i : Nat) :
    Ok Δ am F (σ.set i (some v)) H { c with env := c.env.set i (some r) } := by
  have hl : ((σ.set i (some v)).length) = (c.env.set i (some r)).length := by simpa using k.len
  refine ⟨k.fh, k.f0, k.fr, k.tb, k.pr, k.al, k.gn, hl, fun j q e => ?_, fun j l ys zs n p q my mz => ?_⟩
  · rw [env_get] at e
    split at e
    · rename_i z
      cases e
      refine ⟨v, ?_, s.1⟩
      rw [St.set_get, if_pos ⟨z.1, by rw [k.len]; exact z.2⟩]
    · rename_i z
      obtain ⟨w, h1, h2⟩ := k.sv j q e
      refine ⟨w, ?_, h2⟩
      rw [St.set_get, if_neg (fun y => z ⟨y.1, by rw [← k.len]; exact y.2⟩)]
      exact h1
  · rw [env_get] at p q
    rw [St.set_get, St.set_get]
    have lw : σ.length = c.env.length := k.len
    by_cases hj : j = i ∧ i < c.env.length
    · by_cases hq : l = i ∧ i < c.env.length
      · exact absurd (hj.1.trans hq.1.symm) n
      · rw [if_pos hj] at p
        rw [if_neg hq] at q
        rw [if_pos (by rw [lw]; exact hj), if_neg (by rw [lw]; exact hq)]
        cases p
        exact (s.2 my l zs q mz).symm
    · by_cases hq : l = i ∧ i < c.env.length
      · rw [if_neg hj] at p
        rw [if_pos hq] at q
        rw [if_neg (by rw [lw]; exact hj), if_pos (by rw [lw]; exact hq)]
        cases q
        exact s.2 mz j ys p my
      · rw [if_neg hj] at p
        rw [if_neg hq] at q
        rw [if_neg (by rw [lw]; exact hj), if_neg (by rw [lw]; exact hq)]
        exact k.di j l ys zs n p q my mz
theorem Tch.one (σ : St) (i : Nat) (o : Option V) : Tch [i] σ (σ.set i o) := ⟨List.length_set, fun j h => List.getElem?_set_ne (fun e => h (by rw [e]; exact List.mem_singleton.mpr rfl))⟩
theorem Tch.refl (σ : St) (ws : List Nat) : Tch ws σ σ := ⟨rfl, fun _ _ => rfl⟩
theorem Tch.app {ws us : List Nat} {σ σ' σ'' : St} (h : Tch ws σ σ') (k : Tch us σ' σ'') : Tch (ws ++ us) σ σ'' := ⟨k.1.trans h.1, fun i n => by
  simp only [List.mem_append, not_or] at n
  exact (k.2 i n.2).trans (h.2 i n.1)⟩
theorem dg_name (i : Nat) {x : Str} (hN : X.N.Nodup) (hi : X.N[i]? = some x := by rfl) (hx : Loc X.env.scope x := by first | exact Or.inl rfl | exact Or.inr rfl)
    (hf : X.fn x = true ∨ X.env.scope.names.lookup x = some .local := by first | exact .inl rfl | exact .inr rfl) : PG X (.Name x pos) (tG Δ [i] (gN i)) :=
  (pg_name hN hi hx hf).imp fun v σ H Q ⟨am, F, c, r, P, ok, s, h, kq⟩ => kq _ F _ H h.2 (Le.refl F) (ok.put s i) (.one σ i _)
abbrev WGs := List Px → Cf → (Cf → Prop) → Prop
def tGs (Δ : Dx) (ws : List Nat) (f : WGs) : TGs := fun vs σ H Q => ∃ am F c xs P, Ok Δ am F σ H c ∧ RpA F vs xs ∧ f xs c P ∧
  (∀ c' F' σ' H', P c' → Le F F' → Ok Δ am F' σ' H' c' → Tch ws σ σ' → Q σ' H')
theorem _root_.L2.PGs.imp {es : List Expr} {t t' : TGs} (h : PGs X es t) (w : ∀ v σ H Q, t' v σ H Q → t v σ H Q) : PGs X es t' :=
  ⟨fun pins s σ H v u Q I r q => h.run pins s σ H v u Q I r (w v σ H Q q)⟩
def gsNil : WGs := fun xs c P => match xs with
  | [] => P c
  | _ => False
def gsCons (g : WG) (gs : WGs) : WGs := fun xs c P => match xs with
  | x :: r => g (.d x) c fun c1 => gs r c1 P
  | _ => False
theorem dgs_nil : PGs X [] (tGs Δ [] gsNil) := pgs_nil.imp fun vs σ H Q ⟨am, F, c, xs, P, ok, r, h, kq⟩ => by
  unfold gsNil at h
  split at h
  · cases r
    exact ⟨rfl, kq c F σ H h (Le.refl F) ok (.refl σ [])⟩
  · exact h.elim
theorem dgs_cons {g : WG} {gs : WGs} {us vs : List Nat} (h1 : PG X e (tG Δ us g)) (h2 : PGs X es (tGs Δ vs gs)) (hs : (assignEach (e :: es) X.env).map (·.2) = assign e X.env :: (assignEach es X.env).map (·.2) := by rfl) : PGs X (e :: es) (tGs Δ (us ++ vs) (gsCons g gs)) :=
  (pgs_cons h1 h2 hs).imp fun vs σ H Q ⟨am, F, c, xs, P, ok, r, h, kq⟩ => by
    unfold gsCons at h
    split at h
    · cases r with
      | cons r1 r2 =>
        refine ⟨_, _, rfl, am, F, c, _, _, ok, .of r1, h, fun c1 F1 σ1 H1 p1 l1 o1 t1 => ?_⟩
        exact ⟨am, F1, c1, _, _, o1, r2.mono l1, p1, fun c2 F2 σ2 H2 p2 l2 o2 t2 => kq c2 F2 σ2 H2 p2 (l1.trans l2) o2 (t1.app t2)⟩
    · exact h.elim
/-- (a, b, ..) = a tuple of that length -/
def gT (n : Nat) (gs : WGs) : WG := fun r c P => match r with
  | .d (.tuple xs) => xs.length = n ∧ gs xs c P
  | _ => False
theorem dg_tup {k : Nat} {gs : WGs} {n : Nat} {us : List Nat} (hc : X.calm = true) (h : PGs X es (tGs Δ us gs)) (hn : (assignEach es X.env).length = n := by rfl) (hst : (assignEach es X.env).findIdx? (·.1) = none := by rfl) (hk : X.K = TabF.K := by first | rfl | assumption) : PG X (.Tuple es k pos) (tG Δ us (gT n gs)) :=
  (pg_tup hc h hn hst).imp fun v σ H Q ⟨am, F, c, r, P, ok, s, h, kq⟩ => by
    unfold gT at h
    split at h
    · have h1 := s.1
      cases h1 with
      | tup e r1 => exact ⟨_, _, rfl, e.sq hk ok.fh, by rw [r1.length]; exact h.1, am, F, c, _, P, ok, r1, h.2, kq⟩
    · exact h.elim
end
end Dl
set_option Elab.async false
set_option maxRecDepth 100000
set_option linter.all false
set_option autoImplicit false
namespace Dl
open PySem L2
variable [TabF]
section
variable {X : Cx} {Δ : Dx} {a b e : Expr} {fa fb fc : WE} {pos : Pos} {es : List Expr} {fr : WA} {st : Stmt} {rest sa sb : List Stmt} {ws wt : WS}
/-! ### blocks and small statements -/
def sNil : WS := fun c P _ => P (.nx c)
def sSeq (f g : WS) : WS := fun c P X => f c (fun fl => match fl with
  | .nx c1 => g c1 P X
  | o => P o) X
theorem dss_nil : PSs X [] (tS Δ sNil) := pss_nil.imp fun D σ H ⟨am, F, c, P, XX, ok, hf, kf, kx⟩ => kf.1 c am F σ H hf (Le.refl F) ok
theorem KF.le {am : Addr} {F G : Hp} {P : Fl → Prop} {D : Ends} (k : KF Δ am F P D) (l : Le F G) (am' : Addr) : KF Δ am' G P D :=
  ⟨fun c am' F' σ' H' p l' o => k.1 c am' F' σ' H' p (l.trans l') o, fun c am' F' σ' H' p l' o => k.2.1 c am' F' σ' H' p (l.trans l') o,
    fun c am' F' σ' H' p l' o => k.2.2.1 c am' F' σ' H' p (l.trans l') o, fun r g am' F' H' v p l' o s => k.2.2.2 r g am' F' H' v p (l.trans l') o s⟩
theorem dss_cons (h1 : PS X st (tS Δ ws)) (h2 : PSs X rest (tS Δ wt)) : PSs X (st :: rest) (tS Δ (sSeq ws wt)) := by
  refine (pss_cons h1 h2).imp fun D σ H ⟨am, F, c, P, XX, ok, hf, kf, kx⟩ => ?_
  refine ⟨am, F, c, _, XX, ok, hf, ⟨fun c1 am1 F1 σ1 H1 p1 l1 o1 => ?_, fun c1 am1 F1 σ1 H1 p1 l1 o1 => kf.2.1 c1 am1 F1 σ1 H1 p1 l1 o1, fun c1 am1 F1 σ1 H1 p1 l1 o1 => kf.2.2.1 c1 am1 F1 σ1 H1 p1 l1 o1,
    fun r g am1 F1 H1 v p1 l1 o1 s1 => kf.2.2.2 r g am1 F1 H1 v p1 l1 o1 s1⟩, kx⟩
  exact ⟨am1, F1, c1, P, XX, o1, p1, kf.le l1 am1, kx.le l1⟩
theorem dss_one (h1 : PS X st (tS Δ ws)) : PSs X [st] (tS Δ ws) := pss_one h1
def sBrk : WS := fun c P _ => P (.bk c)
def sCnt : WS := fun c P _ => P (.ct c)
def sNo : WS := fun _ _ _ => False
def sExp (fa : WE) : WS := fun c P X => fa c (fun _ c1 => P (.nx c1)) X
theorem ds_expr (ha : PE X a (tE Δ fa)) (hs : swapsWith a none pos.line X.env = pure false := by rfl) : PS X (.Expr a pos) (tS Δ (sExp fa)) := by
  refine (ps_expr ha hs).imp fun D σ H ⟨am, F, c, P, XX, ok, hf, kf, kx⟩ => ?_
  exact ⟨am, F, c, _, XX, ok, hf, fun r c1 F1 v1 H1 p1 l1 o1 s1 => kf.1 c1 am F1 σ H1 p1 l1 o1, kx am⟩
def sRet (fa : WE) : WS := fun c P X => fa c (fun r c1 => P (.rt r c1.g)) X
theorem ds_ret (ha : PE X a (tE Δ fa)) : PS X (.Return (some a) pos) (tS Δ (sRet fa)) := by
  refine (ps_ret ha).imp fun D σ H ⟨am, F, c, P, XX, ok, hf, kf, kx⟩ => ?_
  exact ⟨am, F, c, _, XX, ok, hf, fun r c1 F1 v1 H1 p1 l1 o1 s1 => kf.2.2.2 r c1.g am F1 H1 v1 p1 l1 o1.fin s1.1, kx am⟩
def sIf (t : WT) (f g : WS) : WS := fun c P X => t c (fun b c1 => if b = true then f c1 P X else g c1 P X) X
theorem ds_if {cnd : Expr} {fA : WT} (hc : PT X cnd (tT Δ fA)) (ha : PSs X sa (tS Δ ws)) (hb : PSs X sb (tS Δ wt)) : PS X (.If cnd sa sb pos) (tS Δ (sIf fA ws wt)) := by
  refine (ps_if hc ha hb).imp fun D σ H ⟨am, F, c, P, XX, ok, hf, kf, kx⟩ => ?_
  refine ⟨am, F, c, _, XX, ok, hf, fun k c1 F1 H1 p1 l1 o1 => ?_, kx am⟩
  cases k with
  | true =>
    rw [if_pos rfl]
    rw [if_pos rfl] at p1
    exact ⟨am, F1, c1, P, XX, o1, p1, kf.le l1 am, kx.le l1⟩
  | false =>
    rw [if_neg Bool.false_ne_true]
    rw [if_neg Bool.false_ne_true] at p1
    exact ⟨am, F1, c1, P, XX, o1, p1, kf.le l1 am, kx.le l1⟩
/-- target = value -/
def sAsg (fa : WE) (g : WG) : WS := fun c P X => fa c (fun r c1 => g r c1 fun c2 => P (.nx c2)) X
theorem asg_of {te : TE} {tg : TG} {g : WG} {us : List Nat} (h1 : ∀ σ H Q, tE Δ fa σ H Q → te σ H Q) (h2 : ∀ v σ H Q, tG Δ us g v σ H Q → tg v σ H Q) (D : Ends) (σ : St) (H : Hp) (h : tS Δ (sAsg fa g) D σ H) : tAsg te tg D σ H := by
  obtain ⟨am, F, c, P, XX, ok, hf, kf, kx⟩ := h
  exact h1 σ H _ ⟨am, F, c, _, XX, ok, hf, fun r c1 F1 v1 H1 p1 l1 o1 s1 => h2 v1 σ H1 _ ⟨am, F1, c1, r, _, o1, s1, p1, fun c2 F2 σ2 H2 p2 l2 o2 _ => kf.1 c2 am F2 σ2 H2 p2 (l1.trans l2) o2⟩, kx am⟩
theorem ds_set (i : Nat) {x : Str} {pos' : Pos} (hN : X.N.Nodup) (ha : PE X a (tE Δ fa)) (hi : X.N[i]? = some x := by rfl) (hx : Loc X.env.scope x := by first | exact Or.inl rfl | exact Or.inr rfl)
    (hs : swapsWith a (some (.Name x pos')) pos.line X.env = pure false := by rfl) (hf : X.fn x = true ∨ X.env.scope.names.lookup x = some .local := by first | exact .inl rfl | exact .inr rfl) : PS X (.Assign [.Name x pos'] a pos) (tS Δ (sAsg fa (gN i))) :=
  (ps_set hN hi hx ha hs hf).imp fun D σ H h => asg_of (us := [i]) (fun _ _ _ h => h) (fun v σ H Q ⟨am, F, c, r, P, ok, s, h, kq⟩ => kq _ F _ H h.2 (Le.refl F) (ok.put s i) (.one σ i _)) D σ H h
theorem ds_asg {tg : Expr} {g : WG} {us : List Nat} (ha : PE X a (tE Δ fa)) (hg : PG X tg (tG Δ us g)) (hs : swapsWithSole [tg] a pos.line X.env = pure false := by rfl) (hw : swappedStores [tg] a X.env = pure none := by rfl)
    (h1 : (assignEach [tg] X.env).map (·.2) = [assign tg X.env] := by rfl) : PS X (.Assign [tg] a pos) (tS Δ (sAsg fa g)) :=
  (ps_asg ha hg hs hw h1).imp fun D σ H h => asg_of (fun _ _ _ h => h) (fun _ _ _ _ h => h) D σ H h
theorem Rs.arg' {am : Addr} {F : Hp} {σ : St} {H : Hp} {c : Cf} {r : Rv} {v : V} {k : Rv → Prop} (o : Ok Δ am F σ H c) (h : Rs Δ am F σ H c r v) (q : argR r k) :
    ∃ x F', k x ∧ Le F F' ∧ Ok Δ am F' σ H c ∧ ∀ G I σ' c', Le F' G → Rs Δ am G σ' I c' x v := by
  cases r with
  | d x => exact ⟨_, F, q, Le.refl F, o, fun G I σ' c' l => .of (Rp.mono l h.1)⟩
  | own xs =>
    obtain ⟨x, F', h1, l, o', rp⟩ := h.data (k := fun x => k (.d x)) o q
    exact ⟨_, F', h1, l, o', fun G I σ' c' l => .of (Rp.mono l rp)⟩
  | gen => exact ⟨_, F, q, Le.refl F, o, fun G I σ' c' l => ⟨h.1, fun z => z.elim⟩⟩
  | dic D => exact q.elim
  | scr ns =>
    obtain ⟨a, e, hq⟩ := h.1
    exact ⟨_, F, q, Le.refl F, o, fun G I σ' c' l => ⟨⟨a, e, sq_le l hq⟩, fun z => z.elim⟩⟩
/-! ### an own list without a name, kept while something else runs -/
def Dx.hold (Δ : Dx) (a : Addr) (o : HO) : Dx := { Δ with H0 := upd Δ.H0 a o }
section
variable {am : Addr} {F : Hp} {σ : St} {H : Hp} {c : Cf} {p : Addr} {o : HO}
theorem unh0 {b : Addr} (h : (Δ.hold p o).H0 b = none) : Δ.H0 b = none ∧ b ≠ p := by
  have h : upd Δ.H0 p o b = none := h
  by_cases q : b = p
  · subst q
    rw [upd_same] at h
    cases h
  · rw [upd_ne q] at h
    exact ⟨h, q⟩
theorem Ok.holdO (k : Ok Δ am F σ H c) (h : H p = some o) (nt : ∀ ps, o ≠ .tbl ps) (hg : ∀ n, c.g = some n → am ≠ p) (hf : F p = none) (h0 : Δ.H0 p = none) (no : ∀ (i : Nat) (r : Rv), c.env[i]? = some (some r) → r.mu → σ[i]? ≠ some (some (.ref p))) :
    Ok (Δ.hold p o) am F σ H c where
  fh := k.fh
  f0 := k.f0
  fr := fun b e => by
    by_cases q : b = p
    · subst q
      exact absurd hf e
    · exact (k.fr b e).elim .inl fun z => .inr (by show upd Δ.H0 p _ b = none; rw [upd_ne q]; exact z)
  tb := ⟨k.tb.1, k.tb.2.1, k.tb.2.2.upd nt⟩
  pr := fun b o' e n => by
    have e : upd Δ.H0 p o b = some o' := e
    by_cases q : b = p
    · subst q
      rw [upd_same] at e
      cases e
      exact h
    · rw [upd_ne q] at e
      exact k.pr b o' e n
  al := fun b e => ⟨(k.al b e).1, fun z => (k.al b e).2 (unh0 z).1⟩
  gn := fun n e => by
    obtain ⟨h1, h2, h3⟩ := k.gn n e
    refine ⟨h1.elim .inl fun z => .inr ⟨z.1, ?_⟩, h2, h3⟩
    show upd Δ.H0 p _ am = none
    rw [upd_ne (hg n e)]
    exact z.2
  len := k.len
  sv := fun i r e => by
    obtain ⟨v, h1, h2⟩ := k.sv i r e
    refine ⟨v, h1, ?_⟩
    cases r with
    | d x => exact h2
    | gen => exact h2
    | scr ns => exact h2
    | own xs =>
      obtain ⟨a, ws, e1, e2, e3, e4, e5⟩ := h2
      subst e1
      refine ⟨a, ws, rfl, e2, e3, ?_, e5⟩
      show upd Δ.H0 p _ a = none
      rw [upd_ne (show a ≠ p from fun z => no i _ e True.intro (by rw [h1, z]))]
      exact e4
    | dic D =>
      obtain ⟨a, ws, e1, e2, e3, e4, e5⟩ := h2
      subst e1
      refine ⟨a, ws, rfl, e2, e3, ?_, e5⟩
      show upd Δ.H0 p _ a = none
      rw [upd_ne (show a ≠ p from fun z => no i _ e True.intro (by rw [h1, z]))]
      exact e4
  di := k.di
theorem Fin.unhold {g : Option Nat} (k : Fin (Δ.hold p o) am F H g) (h0 : Δ.H0 p = none) (hna : Δ.a0 ≠ some p) : Fin Δ am F H g :=
  ⟨k.fh, k.f0, fun b e => (k.fr b e).elim .inl fun z => .inr (unh0 z).1, ⟨k.tb.1, k.tb.2.1, fun b ps z => k.tb.2.2 b ps (by show upd Δ.H0 p _ b = some _; rw [upd_ne (ne_of_none z h0)]; exact z)⟩, fun b o' e n => k.pr b o' (by show upd Δ.H0 p _ b = some o'; rw [upd_ne (ne_of_none e h0)]; exact e) n, fun b e => ⟨(k.al b e).1, fun z => (k.al b e).2 (by show upd Δ.H0 p _ b = none; rw [upd_ne (show b ≠ p from fun q => hna (by rw [← q]; exact e))]; exact z)⟩,
    fun n e => ⟨(k.gn n e).1.elim .inl fun z => .inr ⟨z.1, (unh0 z.2).1⟩, (k.gn n e).2⟩⟩
theorem Ok.unhold (k : Ok (Δ.hold p o) am F σ H c) (h0 : Δ.H0 p = none) (f0 : Δ.F0 p = none) (na : Δ.a0 ≠ some p) :
    Ok Δ am F σ H c ∧ H p = some o ∧ F p = none ∧ ∀ (i : Nat) (r : Rv), c.env[i]? = some (some r) → r.mu → σ[i]? ≠ some (some (.ref p)) := by
  have fn := k.fin.unhold h0 na
  refine ⟨⟨fn.fh, fn.f0, fn.fr, fn.tb, fn.pr, fn.al, fn.gn, k.len, fun i r e => ?_, k.di⟩, k.pr p _ upd_same na, ?_, fun i r e mu z => ?_⟩
  · obtain ⟨v, h1, h2⟩ := k.sv i r e
    refine ⟨v, h1, ?_⟩
    cases r with
    | d x => exact h2
    | gen => exact h2
    | scr ns => exact h2
    | own xs =>
      obtain ⟨a, ws, e1, e2, e3, e4, e5⟩ := h2
      exact ⟨a, ws, e1, e2, e3, (unh0 e4).1, e5⟩
    | dic D =>
      obtain ⟨a, ws, e1, e2, e3, e4, e5⟩ := h2
      exact ⟨a, ws, e1, e2, e3, (unh0 e4).1, e5⟩
  · cases q : F p with
    | none => rfl
    | some u =>
      rcases k.fr p (by rw [q]; exact fun z => nomatch z) with z | z
      · exact absurd f0 z
      · exact absurd rfl (unh0 z).2
  · obtain ⟨v, h1, s1⟩ := k.sv i _ e
    obtain ⟨a, ws, e1, _, _, e4⟩ := s1.at mu
    subst e1
    rw [z] at h1
    cases h1
    exact (unh0 e4).2 rfl
theorem Ok.hold {vs : List V} (k : Ok Δ am F σ H c) (h : H p = some (.lst vs)) (hf : F p = none) (h0 : Δ.H0 p = none) (no : ∀ (i : Nat) (r : Rv), c.env[i]? = some (some r) → r.mu → σ[i]? ≠ some (some (.ref p))) : Ok (Δ.hold p (.lst vs)) am F σ H c :=
  k.holdO h lst_ok.1 (fun n e => ((k.gn n e).2.2.ne h).symm) hf h0 no
end
theorem _root_.Dl.Sl.unhold {Δ : Dx} {p : Addr} {o : HO} {am : Addr} {F H : Hp} {r : Rv} {v : V} (s : Sl (Δ.hold p o) am F H r v) : Sl Δ am F H r v := by
  cases r with
  | d x => exact s
  | gen => exact s
  | scr ns => exact s
  | own ys =>
    obtain ⟨a, ws, q1, q2, q3, q4, q5⟩ := s
    exact ⟨a, ws, q1, q2, q3, (unh0 q4).1, q5⟩
  | dic D =>
    obtain ⟨a, ws, q1, q2, q3, q4, q5⟩ := s
    exact ⟨a, ws, q1, q2, q3, (unh0 q4).1, q5⟩
/-- a result is kept while another expression runs -/
theorem keep_of {am : Addr} {F : Hp} {σ : St} {H : Hp} {c : Cf} {r : Rv} {v : V} {XX : XP} {P : Rv → Cf → Prop} {R : V → Hp → Prop} {tb : TE} (ok : Ok Δ am F σ H c) (s : Rs Δ am F σ H c r v)
    (hb : ∀ Δ' : Dx, Δ'.K = Δ.K → ∀ σ H Q, tE Δ' fb σ H Q → tb σ H Q) (hf : fb c P XX) (kx : KX Δ am F XX)
    (q : ∀ r2 c2 F' w H', P r2 c2 → Le F F' → Ok Δ am F' σ H' c2 → Rs Δ am F' σ H' c2 r2 w → Rs Δ am F' σ H' c2 r v → (r.mu → r2.mu → v ≠ w) → R w H') : tb σ H R := by
  cases r with
  | d x => exact hb Δ rfl σ H R ⟨am, F, c, P, XX, ok, hf, fun r2 c2 F' w H' p l o s2 => q r2 c2 F' w H' p l o s2 (.of (Rp.mono l s.1)) fun z => z.elim, kx⟩
  | gen => exact hb Δ rfl σ H R ⟨am, F, c, P, XX, ok, hf, fun r2 c2 F' w H' p l o s2 => q r2 c2 F' w H' p l o s2 ⟨s.1, fun z => z.elim⟩ fun z => z.elim, kx⟩
  | scr ns =>
    obtain ⟨a, e, hq⟩ := s.1
    exact hb Δ rfl σ H R ⟨am, F, c, P, XX, ok, hf, fun r2 c2 F' w H' p l o s2 => q r2 c2 F' w H' p l o s2 ⟨⟨a, e, sq_le l hq⟩, fun z => z.elim⟩ fun z => z.elim, kx⟩
  | own xs =>
    obtain ⟨⟨p, vs, e1, e2, e3, e4, e5⟩, e6⟩ := s
    subst e1
    have na : Δ.a0 ≠ some p := fun z => (ok.al p z).2 e4
    have o' := ok.hold e2 e3 e4 fun i ys e mu z => e6 True.intro i ys e mu z
    refine hb (Δ.hold p (.lst vs)) rfl σ H R ⟨am, F, c, P, XX, o', hf, fun r2 c2 F' w H' pp l o2 s2 => ?_, fun x g F' H' h l fn => kx x g F' H' h l (fn.unhold e4 na)⟩
    obtain ⟨o3, h1, h2, h3⟩ := o2.unhold e4 (ok.f0.nn e3) na
    refine q r2 c2 F' w H' pp l o3 ⟨s2.1.unhold, s2.2⟩ ⟨⟨p, vs, rfl, h1, h2, e4, e5.mono l⟩, fun _ i zs e mu z => h3 i zs e mu z⟩ fun _ hy => ?_
    obtain ⟨a, ws, q1, q2, q3, q4⟩ := s2.1.at hy
    subst q1
    intro z
    cases z
    exact (unh0 q4).2 rfl
  | dic D =>
    obtain ⟨⟨p, ob, e1, e2, e3, e4, e5⟩, e6⟩ := s
    subst e1
    have na : Δ.a0 ≠ some p := fun z => (ok.al p z).2 e4
    have o' := ok.holdO e2 e5.ntbl (fun n e => ((ok.gn n e).2.2.neD e2 e5).symm) e3 e4 fun i ys e mu z => e6 True.intro i ys e mu z
    refine hb (Δ.hold p ob) rfl σ H R ⟨am, F, c, P, XX, o', hf, fun r2 c2 F' w H' pp l o2 s2 => ?_, fun x g F' H' h l fn => kx x g F' H' h l (fn.unhold e4 na)⟩
    obtain ⟨o3, h1, h2, h3⟩ := o2.unhold e4 (ok.f0.nn e3) na
    refine q r2 c2 F' w H' pp l o3 ⟨s2.1.unhold, s2.2⟩ ⟨⟨p, ob, rfl, h1, h2, e4, e5.mono l⟩, fun _ i zs e mu z => h3 i zs e mu z⟩ fun _ hy => ?_
    obtain ⟨a, ws, q1, q2, q3, q4⟩ := s2.1.at hy
    subst q1
    intro z
    cases z
    exact (unh0 q4).2 rfl
end
end Dl
set_option Elab.async false
set_option maxRecDepth 100000
set_option linter.all false
set_option autoImplicit false
namespace Dl
open PySem L2
variable [TabF]
section
variable {X : Cx} {Δ : Dx} {a b e : Expr} {fa fb fc : WE} {pos : Pos} {es : List Expr} {fr : WA} {st : Stmt} {rest sa sb : List Stmt} {ws wt : WS}
/-! ### a, b = x, y and a, b, c = x, y, z: no tuple is kept -/
def tPar3 (i j l : Nat) (ta : TA) : TS := fun D σ H => ta σ H fun vs H1 => ∃ v w u, vs = [v, w, u] ∧ D.nx (((σ.set l (some u)).set j (some w)).set i (some v)) H1
open PyProof.Rows in
theorem ps_par3 {i j l : Nat} {x y z : Str} {p q r : Expr} {ta : TA} {px py pz pt : Pos} {kt k2 : Nat} {pt2 : Pos} (calm : X.calm = true) (nd : X.N.Nodup)
    (hi : X.N[i]? = some x) (hj : X.N[j]? = some y) (hl : X.N[l]? = some z) (hx : X.env.scope.names.lookup x = some .local) (hy : X.env.scope.names.lookup y = some .local) (hz : X.env.scope.names.lookup z = some .local)
    (args : PA X [p, q, r] ta) (sw : swappedStores [.Tuple [.Name x px, .Name y py, .Name z pz] kt pt] (.Tuple [p, q, r] k2 pt2) X.env = pure (some [x, y, z]))
    (ns : swapsWithSole [.Tuple [.Name x px, .Name y py, .Name z pz] kt pt] (.Tuple [p, q, r] k2 pt2) pos.line X.env = pure false := by rfl) :
    PS X (.Assign [.Tuple [.Name x px, .Name y py, .Name z pz] kt pt] (.Tuple [p, q, r] k2 pt2) pos) (tPar3 i j l ta) := by
  constructor
  intro pins s σ H D J want
  rw [exec_Assign_arm]
  apply wpAny_bind
  apply wpAny_standAt
  rw [ns]
  apply wpAny_bind
  apply wpAny_pure
  rw [if_neg (by decide)]
  apply wpAny_bind
  apply Tuple_
  refine thn (args.run _ pins s σ H _ J want) ?_
  rintro us s1 ⟨vs, H1, J1, rv, v, w, u, hvs, fin⟩
  subst hvs
  cases rv with
  | cons r1 rv =>
  cases rv with
  | cons r2 rv =>
  cases rv with
  | cons r3 rv =>
  cases rv
  rename_i u1 u2 u3
  refine wpAny_newObj_type ?_ (show 3 ≤ sizeLine by decide)
  have J2 : Inv X pins σ H1 { s1 with heap := s1.heap.push { cls := .type "tuple", data := .seq [u1, u2, u3].toArray } } := J1.kept (t' := s1.toks) fun _ _ h => Heap.get?_push_of_some _ h
  rw [sw]
  apply wpAny_bind
  apply wpAny_pure
  show wpAny (model X.prog X.w) X.A (rule "assign.swapped-stores" >>= fun _ => unpackItems (.ref s1.heap.objs.size) 3 none >>= fun items => assignInOrder [bindName X.env z, bindName X.env y, bindName X.env x] items.reverse >>= fun _ => pure Flow.next) _ _ _
  apply wpAny_bind
  apply wpAny_rule
  apply wpAny_bind
  refine unpackItems_tuple (items := #[u1, u2, u3]) (J.ok.hd calm) (IsTup.new s1.heap _) ?_
  intro hp ext
  have J3 := J2.kept (h' := hp) (t' := s1.toks) fun b o h => ext b o (Nat.ne_of_lt (Heap.lt_size h)) h
  show wpAny _ _ (assignInOrder [bindName X.env z, bindName X.env y, bindName X.env x] [u3, u2, u1] >>= fun _ => pure Flow.next) _ _ _
  apply wpAny_bind
  refine assignInOrder_cons (wpAny_bindName (store_ok J3 nd hl (.inl hz) r3 (fun s4 J4 => ?_) (.inr hz)))
  refine assignInOrder_cons (wpAny_bindName (store_ok J4 nd hj (.inl hy) r2 (fun s5 J5 => ?_) (.inr hy)))
  refine assignInOrder_cons (wpAny_bindName (store_ok J5 nd hi (.inl hx) r1 (fun s6 J6 => ?_) (.inr hx)))
  exact assignInOrder_nil (wpAny_pure ⟨_, H1, J6, fin⟩)
def putE (c : Cf) (i : Nat) (r : Rv) : Cf := { c with env := c.env.set i (some r) }
def sPar2 (i j : Nat) (fa fb : WE) : WS := fun c P X => fa c (fun r1 c1 => fb c1 (fun r2 c2 => P (.nx (putE (putE c2 i r1) j r2))) X) X
def sPar3 (i j l : Nat) (fa fb fc : WE) : WS := fun c P X => fa c (fun r1 c1 => argR r1 fun x1 => fb c1 (fun r2 c2 => fc c2 (fun r3 c3 => P (.nx (putE (putE (putE c3 l r3) j r2) i x1))) X) X) X
/-- one result is stored, another one is still at hand -/
theorem Rs.put {am : Addr} {F : Hp} {σ : St} {H : Hp} {c : Cf} {r r' : Rv} {v v' : V} (s : Rs Δ am F σ H c r v) (hl : σ.length = c.env.length) (ne : r.mu → r'.mu → v ≠ v') (i : Nat) :
    Rs Δ am F (σ.set i (some v')) H (putE c i r') r v := by
  refine ⟨s.1, fun m1 j ys h m2 z => ?_⟩
  have h : (c.env.set i (some r'))[j]? = some (some ys) := h
  rw [env_get] at h
  rw [St.set_get, hl] at z
  split at h
  · rename_i q
    rw [if_pos q] at z
    cases z
    cases h
    exact ne m1 m2 rfl
  · rename_i q
    rw [if_neg q] at z
    exact s.2 m1 j ys h m2 z
theorem ds_par2 (i j : Nat) {x y : Str} {px py pt : Pos} {kt k2 : Nat} {pt2 : Pos} (hc : X.calm = true) (hN : X.N.Nodup) (ha : PE X a (tE Δ fa)) (hb : ∀ Δ' : Dx, Δ'.K = Δ.K → PE X b (tE Δ' fb))
    (hw : swappedStores [.Tuple [.Name x px, .Name y py] kt pt] (.Tuple [a, b] k2 pt2) X.env = pure (some [x, y])) (hi : X.N[i]? = some x := by rfl) (hj : X.N[j]? = some y := by rfl) (hij : i ≠ j := by decide)
    (hx : X.env.scope.names.lookup x = some .local := by rfl) (hy : X.env.scope.names.lookup y = some .local := by rfl) (hs1 : starEach (a :: [b]) X.env = (false, eval a X.env) :: starEach [b] X.env := by rfl) (hs2 : starEach (b :: []) X.env = (false, eval b X.env) :: starEach [] X.env := by rfl)
    (hs : swapsWithSole [.Tuple [.Name x px, .Name y py] kt pt] (.Tuple [a, b] k2 pt2) pos.line X.env = pure false := by rfl) :
    PS X (.Assign [.Tuple [.Name x px, .Name y py] kt pt] (.Tuple [a, b] k2 pt2) pos) (tS Δ (sPar2 i j fa fb)) := by
  -- b's reading, for whatever is kept
  let tb : TE := fun σ H Q => ∃ Δ' : Dx, Δ'.K = Δ.K ∧ tE Δ' fb σ H Q
  have hb' : PE X b tb := ⟨fun pins s σ H Q I ⟨Δ', e, h⟩ => (hb Δ' e).run pins s σ H Q I h⟩
  refine (ps_par hc hN hi hj hij hx hy (pa_cons ha (pa_cons hb' pa_nil hs2) hs1) hw hs).imp fun D σ H ⟨am, F, c, P, XX, ok, hf, kf, kx⟩ => ?_
  refine ⟨am, F, c, _, XX, ok, hf, fun r1 c1 F1 v1 H1 p1 l1 o1 s1 => ?_, kx am⟩
  refine keep_of (Δ := Δ) o1 s1 (fun Δ' e σ H Q h => ⟨Δ', e, h⟩) p1 ((kx am).le l1) fun r2 c2 F2 v2 H2 p2 l2 o2 s2 s1' ne => ?_
  refine ⟨v1, v2, rfl, kf.1 _ am F2 _ H2 p2 (l1.trans l2) ?_⟩
  have o3 := o2.put s1' i
  exact o3.put (s2.put o2.len (fun z1 z2 e => ne z2 z1 e.symm) i) j
theorem ds_par3 (i j l : Nat) {x y z : Str} {d : Expr} {px py pz pt : Pos} {kt k2 : Nat} {pt2 : Pos} (hc : X.calm = true) (hN : X.N.Nodup) (ha : PE X a (tE Δ fa)) (hb : ∀ Δ' : Dx, Δ'.K = Δ.K → PE X b (tE Δ' fb)) (hd : ∀ Δ' : Dx, Δ'.K = Δ.K → PE X d (tE Δ' fc))
    (hw : swappedStores [.Tuple [.Name x px, .Name y py, .Name z pz] kt pt] (.Tuple [a, b, d] k2 pt2) X.env = pure (some [x, y, z])) (hi : X.N[i]? = some x := by rfl) (hj : X.N[j]? = some y := by rfl) (hl : X.N[l]? = some z := by rfl)
    (hx : X.env.scope.names.lookup x = some .local := by rfl) (hy : X.env.scope.names.lookup y = some .local := by rfl) (hz : X.env.scope.names.lookup z = some .local := by rfl)
    (hs1 : starEach (a :: [b, d]) X.env = (false, eval a X.env) :: starEach [b, d] X.env := by rfl) (hs2 : starEach (b :: [d]) X.env = (false, eval b X.env) :: starEach [d] X.env := by rfl) (hs3 : starEach (d :: []) X.env = (false, eval d X.env) :: starEach [] X.env := by rfl)
    (hs : swapsWithSole [.Tuple [.Name x px, .Name y py, .Name z pz] kt pt] (.Tuple [a, b, d] k2 pt2) pos.line X.env = pure false := by rfl) :
    PS X (.Assign [.Tuple [.Name x px, .Name y py, .Name z pz] kt pt] (.Tuple [a, b, d] k2 pt2) pos) (tS Δ (sPar3 i j l fa fb fc)) := by
  let tb : TE := fun σ H Q => ∃ Δ' : Dx, Δ'.K = Δ.K ∧ tE Δ' fb σ H Q
  let td : TE := fun σ H Q => ∃ Δ' : Dx, Δ'.K = Δ.K ∧ tE Δ' fc σ H Q
  have hb' : PE X b tb := ⟨fun pins s σ H Q I ⟨Δ', e, h⟩ => (hb Δ' e).run pins s σ H Q I h⟩
  have hd' : PE X d td := ⟨fun pins s σ H Q I ⟨Δ', e, h⟩ => (hd Δ' e).run pins s σ H Q I h⟩
  refine (ps_par3 hc hN hi hj hl hx hy hz (pa_cons ha (pa_cons hb' (pa_cons hd' pa_nil hs3) hs2) hs1) hw hs).imp fun D σ H ⟨am, F, c, P, XX, ok, hf, kf, kx⟩ => ?_
  refine ⟨am, F, c, _, XX, ok, hf, fun r1 c1 F1 v1 H1 p1 l1 o1 s1 => ?_, kx am⟩
  obtain ⟨x1, F1', hx1, l1', o1', k1⟩ := Rs.arg' o1 s1 p1
  refine ⟨Δ, rfl, am, F1', c1, _, XX, o1', hx1, fun r2 c2 F2 v2 H2 p2 l2 o2 s2 => ?_, (kx am).le (l1.trans l1')⟩
  refine keep_of (Δ := Δ) o2 s2 (fun Δ' e σ H Q h => ⟨Δ', e, h⟩) p2 ((kx am).le ((l1.trans l1').trans l2)) fun r3 c3 F3 v3 H3 p3 l3 o3 s3 s2' ne => ?_
  refine ⟨v1, v2, v3, rfl, kf.1 _ am F3 _ H3 p3 (((l1.trans l1').trans l2).trans l3) ?_⟩
  have o4 := o3.put s3 l
  have o5 := o4.put (s2'.put o3.len ne l) j
  exact o5.put (k1 F3 H3 _ _ (l2.trans l3)) i
/-! ### comprehensions -/
def wipeE (env : List (Option Rv)) : List Nat → List (Option Rv)
  | [] => env
  | v :: vs => (wipeE env vs).set v none
/-- the items of xs, one after another: each at the target, then the test, then the element -/
def lcW (g : WG) (t : WT) (f : WE) (vs : List Nat) (env : List (Option Rv)) (X : XP) (P : Rv → Cf → Prop) : List Px → List Px → Option Nat → Prop
  | [], acc, gs => P (.own acc) ⟨env, gs⟩
  | x :: xs, acc, gs => g (.d x) ⟨wipeE env vs, gs⟩ fun c1 => wipeE c1.env vs = wipeE env vs ∧ t c1 (fun b c2 => c2.env = c1.env ∧ if b = true then f c2 (fun r c3 => c3.env = c1.env ∧ asD r fun y => acc.length < 1000000 ∧ lcW g t f vs env X P xs (acc ++ [y]) c3.g) X
      else lcW g t f vs env X P xs acc c2.g) X
def nown (env : List (Option Rv)) (vs : List Nat) : Prop := ∀ j ∈ vs, ∀ r : Rv, env[j]? = some (some r) → ¬ r.mu
def eLc (it : WI) (g : WG) (t : WT) (f : WE) (vs : List Nat) : WE := fun c P X => it c (fun xs c1 => nown c1.env vs ∧ lcW g t f vs c1.env X P xs [] c1.g) X
theorem wipeE_length (env : List (Option Rv)) : ∀ vs : List Nat, (wipeE env vs).length = env.length
  | [] => rfl
  | v :: vs => by unfold wipeE; rw [List.length_set, wipeE_length env vs]
theorem wipeE_some {env : List (Option Rv)} {i : Nat} {r : Rv} : ∀ {vs : List Nat}, (wipeE env vs)[i]? = some (some r) → env[i]? = some (some r) ∧ i ∉ vs
  | [], h => ⟨h, by simp⟩
  | v :: vs, h => by
    unfold wipeE at h
    rw [env_get] at h
    split at h
    · cases h
    · rename_i z
      obtain ⟨h1, h2⟩ := wipeE_some h
      refine ⟨h1, ?_⟩
      have hl : v = i → False := fun e => z ⟨e.symm, by rw [e]; exact (List.getElem?_eq_some_iff.mp h).1⟩
      simp only [List.mem_cons, not_or]
      exact ⟨fun e => hl e.symm, h2⟩
theorem wipe_keep {σ : St} {i : Nat} : ∀ {vs : List Nat}, i ∉ vs → (wipe σ vs)[i]? = σ[i]?
  | [], _ => rfl
  | v :: vs, h => by
    unfold wipe
    simp only [List.mem_cons, not_or] at h
    rw [List.getElem?_set_ne (Ne.symm h.1), wipe_keep h.2]
theorem Ok.wiped {am : Addr} {F : Hp} {σ : St} {H : Hp} {c : Cf} (k : Ok Δ am F σ H c) (vs : List Nat) : Ok Δ am F (wipe σ vs) H { c with env := wipeE c.env vs } := by
  refine ⟨k.fh, k.f0, k.fr, k.tb, k.pr, k.al, k.gn, by rw [wipe_length, k.len]; exact (wipeE_length _ _).symm, fun i r e => ?_, fun i j xs ys n p q m1 m2 => ?_⟩
  · obtain ⟨h1, h2⟩ := wipeE_some e
    obtain ⟨v, h3, h4⟩ := k.sv i r h1
    exact ⟨v, by rw [wipe_keep h2]; exact h3, h4⟩
  · obtain ⟨h1, h2⟩ := wipeE_some p
    obtain ⟨h3, h4⟩ := wipeE_some q
    rw [wipe_keep h2, wipe_keep h4]
    exact k.di i j xs ys n h1 h3 m1 m2
theorem wipe_set {σ : St} {i : Nat} : ∀ {vs : List Nat}, i ∈ vs → i < σ.length → (wipe σ vs)[i]? = some none
  | v :: vs, h, hl => by
    unfold wipe
    rw [St.set_get, wipe_length]
    by_cases e : i = v
    · rw [if_pos ⟨e, by rw [← e]; exact hl⟩]
    · rw [if_neg (fun z => e z.1)]
      exact wipe_set ((List.mem_cons.mp h).resolve_left e) hl
theorem wipe_idem (σ : St) (vs : List Nat) : wipe (wipe σ vs) vs = wipe σ vs := by
  apply List.ext_getElem?
  intro i
  by_cases q : i ∈ vs
  · by_cases hl : i < σ.length
    · rw [wipe_set q hl, wipe_set q (by rw [wipe_length]; exact hl)]
    · rw [List.getElem?_eq_none (by rw [wipe_length, wipe_length]; omega), List.getElem?_eq_none (by rw [wipe_length]; omega)]
  · rw [wipe_keep q]
theorem wipe_tch {σ σ' : St} {ws vs : List Nat} (h : Tch ws σ σ') (s : ∀ i ∈ ws, i ∈ vs) : wipe σ' vs = wipe σ vs := by
  apply List.ext_getElem?
  intro i
  by_cases q : i ∈ vs
  · by_cases hl : i < σ.length
    · rw [wipe_set q hl, wipe_set q (by rw [h.1]; exact hl)]
    · rw [List.getElem?_eq_none (by rw [wipe_length, h.1]; omega), List.getElem?_eq_none (by rw [wipe_length]; omega)]
  · rw [wipe_keep q, wipe_keep q]
    exact h.2 i fun z => q (s i z)
theorem wipeE_keep {env : List (Option Rv)} {i : Nat} : ∀ {vs : List Nat}, i ∉ vs → (wipeE env vs)[i]? = env[i]?
  | [], _ => rfl
  | v :: vs, h => by
    unfold wipeE
    simp only [List.mem_cons, not_or] at h
    rw [List.getElem?_set_ne (Ne.symm h.1), wipeE_keep h.2]
/-- behind a turn of a comprehension: the def's own slots again -/
theorem Ok.unwipe {am : Addr} {F F' : Hp} {σ σ2 : St} {H H' : Hp} {env env2 : List (Option Rv)} {g g2 : Option Nat} {ws vs : List Nat} (k : Ok Δ am F σ H ⟨env, g⟩) (k2 : Ok Δ am F' σ2 H' ⟨env2, g2⟩) (l : Le F F')
    (t : Tch ws (L2.wipe σ vs) σ2) (s : ∀ i ∈ ws, i ∈ vs) (e : wipeE env2 vs = wipeE env vs) (n : nown env vs) : Ok Δ am F' σ H' ⟨env, g2⟩ := by
  have hs : ∀ i, i ∉ vs → σ2[i]? = σ[i]? := fun i h => (t.2 i fun z => h (s i z)).trans (wipe_keep h)
  have he : ∀ i, i ∉ vs → env2[i]? = env[i]? := fun i h => by rw [← wipeE_keep (env := env2) h, e, wipeE_keep h]
  refine ⟨k2.fh, k2.f0, k2.fr, k2.tb, k2.pr, k2.al, k2.gn, k.len, fun i r q => ?_, fun i j xs ys ne q1 q2 m1 m2 => ?_⟩
  · by_cases hv : i ∈ vs
    · obtain ⟨v, h1, h2⟩ := k.sv i r q
      refine ⟨v, h1, ?_⟩
      cases r with
      | d x => exact Rp.mono l h2
      | gen => exact h2
      | scr ns =>
        obtain ⟨a, e1, e2⟩ := h2
        exact ⟨a, e1, sq_le l e2⟩
      | own xs => exact absurd True.intro (n i hv _ q)
      | dic D => exact absurd True.intro (n i hv _ q)
    · obtain ⟨v, h1, h2⟩ := k2.sv i r ((he i hv).trans q)
      exact ⟨v, (hs i hv).symm.trans h1, h2⟩
  · have h1 : i ∉ vs := fun z => n i z _ q1 m1
    have h2 : j ∉ vs := fun z => n j z _ q2 m2
    have := k2.di i j xs ys ne ((he i h1).trans q1) ((he j h2).trans q2) m1 m2
    rw [hs i h1, hs j h2] at this
    exact this
/-- an own list without a name, changed -/
theorem Ok.chg {am : Addr} {F : Hp} {σ : St} {H : Hp} {c : Cf} {p : Addr} {vs ws : List V} (k : Ok Δ am F σ H c) (h : H p = some (.lst vs)) (hf : F p = none) (h0 : Δ.H0 p = none) (no : ∀ (i : Nat) (r : Rv), c.env[i]? = some (some r) → r.mu → σ[i]? ≠ some (some (.ref p))) :
    Ok Δ am F σ (upd H p (.lst ws)) c where
  fh := fun b o e => by rw [upd_ne (fun q => by rw [q, hf] at e; cases e)]; exact k.fh b o e
  f0 := k.f0
  fr := k.fr
  tb := k.tb.lst h
  pr := fun b o e n => by rw [upd_ne (ne_of_none e h0)]; exact k.pr b o e n
  al := fun b e => ⟨(k.al b e).1.upd lst_ok.1, (k.al b e).2⟩
  gn := fun n e => by
    obtain ⟨h1, h2, h3⟩ := k.gn n e
    have ne := (h3.ne h).symm
    obtain ⟨l, s, sp, ac, ns, h4, h5⟩ := h3
    exact ⟨h1, h2, l, s, sp, ac, ns, by rw [upd_ne ne]; exact h4, h5⟩
  len := k.len
  sv := fun i r e => by
    obtain ⟨v, h1, h2⟩ := k.sv i r e
    refine ⟨v, h1, ?_⟩
    cases r with
    | d x => exact h2
    | gen => exact h2
    | scr ns => exact h2
    | own xs =>
      obtain ⟨a, us, e1, e2, e3⟩ := h2
      subst e1
      exact ⟨a, us, rfl, by rw [upd_ne (show a ≠ p from fun z => no i _ e True.intro (by rw [h1, z]))]; exact e2, e3⟩
    | dic D =>
      obtain ⟨a, us, e1, e2, e3⟩ := h2
      subst e1
      exact ⟨a, us, rfl, by rw [upd_ne (show a ≠ p from fun z => no i _ e True.intro (by rw [h1, z]))]; exact e2, e3⟩
  di := k.di
theorem lc_of {it : WI} {g : WG} {t : WT} {f : WE} {ws vs0 : List Nat} {tg' : TG} {tt' : TT} {te' : TE} (hg : ∀ Δ' : Dx, Δ'.K = Δ.K → ∀ v σ H Q, tG Δ' ws g v σ H Q → tg' v σ H Q) (ht : ∀ Δ' : Dx, Δ'.K = Δ.K → ∀ σ H Q, tT Δ' t σ H Q → tt' σ H Q)
    (he : ∀ Δ' : Dx, Δ'.K = Δ.K → ∀ σ H Q, tE Δ' f σ H Q → te' σ H Q) (hws : ∀ i ∈ ws, i ∈ vs0) (σ : St) (H : Hp) (Q : VK) (h : tE Δ (eLc it g t f vs0) σ H Q) : tLc (tI Δ it) tg' tt' te' vs0 σ H Q := by
  obtain ⟨am, F, c, P, XX, ok, hf, kq, kx⟩ := h
  refine ⟨am, F, c, _, XX, ok, hf, fun xs c1 F1 H1 J p1 l1 o1 wk => ?_, kx⟩
  intro D hD
  obtain ⟨nw, p1⟩ := p1
  refine lc_it wk (fun i H => ∃ F' acc vs gs, Le F1 F' ∧ Ok Δ am F' σ H ⟨c1.env, gs⟩ ∧ H D = some (.lst vs) ∧ F' D = none ∧ RpA F' vs acc ∧
    (∀ (i : Nat) (r : Rv), c1.env[i]? = some (some r) → r.mu → σ[i]? ≠ some (some (.ref D))) ∧ lcW g t f vs0 c1.env XX P (xs.drop i) acc gs) ?_ ?_ ?_ ?_
  · obtain ⟨o2, r2⟩ := Rs.fresh o1 hD (vs := []) (xs := []) .nil
    refine ⟨F1, [], [], c1.g, Le.refl F1, o2, upd_same, o1.fh.nn hD, .nil, fun i ys e mu => r2.2 True.intro i ys e mu, p1⟩
  · rintro i H' _ ⟨F', acc, vs, gs, l2, o2, _⟩
    exact l2.trans o2.fh
  · rintro i v H2 H3 hi ⟨F', acc, vs, gs, l2, o2, hd, fd, ra, no, hw⟩ ⟨x, hx, hy⟩
    have h0 : Δ.H0 D = none := o1.new hD
    have hdrop : xs.drop i = x :: xs.drop (i + 1) := by
      rw [List.drop_eq_getElem_cons hi]
      rw [List.getElem?_eq_getElem hi] at hx
      cases hx
      rfl
    rw [hdrop] at hw
    obtain ⟨F3, l3, o3, hd3, fd3, rx⟩ : ∃ F3, Le F' F3 ∧ Ok Δ am F3 σ H3 ⟨c1.env, gs⟩ ∧ H3 D = some (.lst vs) ∧ F3 D = none ∧ Rp F3 v x := by
      rcases hy with ⟨rfl, rx⟩ | ⟨T, us, ds, rfl, hT, rfl, rfl, rx⟩
      · exact ⟨F', Le.refl F', o2, hd, fd, rx.mono l2⟩
      · obtain ⟨o3, l3, rp⟩ := o2.tupN hT (rx.mono l2)
        have ne : D ≠ T := ne_of_none hd hT
        exact ⟨_, l3, o3, by rw [upd_ne ne]; exact hd, by rw [upd_ne ne]; exact fd, rp⟩
    have f00 : Δ.F0 D = none := o3.f0.nn fd3
    have na : Δ.a0 ≠ some D := fun z => (o3.al D z).2 h0
    have oh := o3.hold hd3 fd3 h0 no
    refine hg (Δ.hold D (.lst vs)) rfl _ _ _ _ ⟨am, F3, _, .d x, _, oh.wiped vs0, .of rx, hw, fun c2 F4 σ4 H4 p4 l4 o4 t4 => ?_⟩
    obtain ⟨e4, p4⟩ := p4
    refine ⟨?_, ?_⟩
    · rw [wipe_tch t4 hws]
      exact wipe_idem σ _
    have kxh : ∀ {G : Hp}, Le F G → KX (Δ.hold D (.lst vs)) am G XX := fun {G} lg x g F' H' h l fn => kx x g F' H' h (lg.trans l) (fn.unhold h0 na)
    have lF3 : Le F F3 := (l1.trans l2).trans l3
    refine ht (Δ.hold D (.lst vs)) rfl _ _ _ ⟨am, F4, c2, _, XX, o4, p4, fun b c3 F5 H5 p5 l5 o5 => ?_, kxh (lF3.trans l4)⟩
    obtain ⟨e5, p5⟩ := p5
    cases b with
    | true =>
      rw [if_pos rfl] at p5 ⊢
      refine he (Δ.hold D (.lst vs)) rfl _ _ _ ⟨am, F5, c3, _, XX, o5, p5, fun r c6 F6 v6 H6 p6 l6 o6 s6 => ?_, kxh ((lF3.trans l4).trans l5)⟩
      obtain ⟨e6, p6⟩ := p6
      obtain ⟨y, F7, hy, l7, o7, rp7⟩ := s6.data o6 p6
      obtain ⟨o8, hd8, fd8, no8⟩ := o7.unhold h0 f00 na
      obtain ⟨c6e, c6g⟩ := c6
      have e6 : c6e = c2.env := e6
      subst e6
      have ll : Le F' F7 := (((l3.trans l4).trans l5).trans l6).trans l7
      have o9 := o2.unwipe o8 ll t4 hws e4 nw
      refine ⟨vs, hd8, Nat.lt_of_lt_of_le (show vs.length < 1000000 by rw [ra.length]; exact hy.1) (line_of (Nat.le_refl _)), F7, acc ++ [y], vs ++ [v6], c6g, l2.trans ll, o9.chg hd8 fd8 h0 no, upd_same, fd8, (ra.mono ll).append (.one rp7), no, hy.2⟩
    | false =>
      rw [if_neg Bool.false_ne_true] at p5 ⊢
      obtain ⟨o8, hd8, fd8, no8⟩ := o5.unhold h0 f00 na
      obtain ⟨c3e, c3g⟩ := c3
      have e5 : c3e = c2.env := e5
      subst e5
      have ll : Le F' F5 := (l3.trans l4).trans l5
      have o9 := o2.unwipe o8 ll t4 hws e4 nw
      exact ⟨F5, acc, vs, c3g, l2.trans ll, o9, hd8, fd8, ra.mono ll, no, p5⟩
  · rintro H2 ⟨F', acc, vs, gs, l2, o2, hd, fd, ra, no, hw⟩
    rw [List.drop_length] at hw
    exact kq (.own acc) ⟨c1.env, gs⟩ F' (.ref D) H2 hw (l1.trans l2) o2 ⟨⟨D, vs, rfl, hd, fd, o1.new hD, ra⟩, fun _ i ys e mu => no i ys e mu⟩
theorem de_lc {elt tg iter : Expr} {ifs : List Expr} {scope : Scope} {own : List (Str × Nat)} {it : WI} {g : WG} {t : WT} {f : WE} {ws : List Nat} (hc : X.calm = true) (hN : X.N.Nodup) (hi : PI X tg iter (tI Δ it)) (bok : BlkOk X.N X.env.scope scope own)
    (hg : ∀ (s : Shared) (H : Hp) (C : Addr) (cl : List (Str × Addr)) (fp : List Addr) (Δ' : Dx), Δ'.K = Δ.K → PG (X.blk s H scope (compEnvC scope cl C X.env) fp) tg (tG Δ' ws g))
    (ht : ∀ (s : Shared) (H : Hp) (C : Addr) (cl : List (Str × Addr)) (fp : List Addr) (Δ' : Dx), Δ'.K = Δ.K → PTs (X.blk s H scope (compEnvC scope cl C X.env) fp) ifs (tT Δ' t))
    (he : ∀ (s : Shared) (H : Hp) (C : Addr) (cl : List (Str × Addr)) (fp : List Addr) (Δ' : Dx), Δ'.K = Δ.K → PE (X.blk s H scope (compEnvC scope cl C X.env) fp) elt (tE Δ' f))
    (hws : ∀ i ∈ ws, i ∈ own.map (·.2) := by decide) (hs : ∀ x, foldedSetIterable iter X.env x = pure x := by intro _; rfl) :
    PE X (.ListComp elt [⟨tg, iter, ifs, 0⟩] scope pos) (tE Δ (eLc it g t f (own.map (·.2)))) := by
  let tg' : TG := fun v σ H Q => ∃ Δ' : Dx, Δ'.K = Δ.K ∧ tG Δ' ws g v σ H Q
  let tt' : TT := fun σ H Q => ∃ Δ' : Dx, Δ'.K = Δ.K ∧ tT Δ' t σ H Q
  let te' : TE := fun σ H Q => ∃ Δ' : Dx, Δ'.K = Δ.K ∧ tE Δ' f σ H Q
  exact (pe_lc (g := tg') (tt := tt') (te := te') hc hN hi bok (fun s H C cl fp => ⟨fun pins s' σ H' v u Q I r ⟨Δ', e, h⟩ => (hg s H C cl fp Δ' e).run pins s' σ H' v u Q I r h⟩)
    (fun s H C cl fp => ⟨fun pins s' σ H' Q I ⟨Δ', e, h⟩ => (ht s H C cl fp Δ' e).run pins s' σ H' Q I h⟩) (fun s H C cl fp => ⟨fun pins s' σ H' Q I ⟨Δ', e, h⟩ => (he s H C cl fp Δ' e).run pins s' σ H' Q I h⟩) hs).imp
    fun σ H Q h => lc_of (fun Δ' e v σ H Q h => ⟨Δ', e, h⟩) (fun Δ' e σ H Q h => ⟨Δ', e, h⟩) (fun Δ' e σ H Q h => ⟨Δ', e, h⟩) hws σ H Q h
/-- name = [..] on one row, the name a local -/
theorem ds_setLc (i : Nat) {y : Str} {py spos : Pos} {elt tg iter : Expr} {ifs : List Expr} {scope : Scope} {own : List (Str × Nat)} {it : WI} {g : WG} {t : WT} {f : WE} {ws : List Nat} (hc : X.calm = true) (hy : X.N[i]? = some y) (hyl : X.env.scope.names.lookup y = some .local) (hsw : swapsWith (.ListComp elt [⟨tg, iter, ifs, 0⟩] scope pos) (some (.Name y py)) spos.line X.env = pure true) (hN : X.N.Nodup) (hi : PI X tg iter (tI Δ it)) (bok : BlkOk X.N X.env.scope scope own)
    (hg : ∀ (s : Shared) (H : Hp) (C : Addr) (cl : List (Str × Addr)) (fp : List Addr) (Δ' : Dx), Δ'.K = Δ.K → PG (X.blk s H scope (compEnvC scope cl C X.env) fp) tg (tG Δ' ws g))
    (ht : ∀ (s : Shared) (H : Hp) (C : Addr) (cl : List (Str × Addr)) (fp : List Addr) (Δ' : Dx), Δ'.K = Δ.K → PTs (X.blk s H scope (compEnvC scope cl C X.env) fp) ifs (tT Δ' t))
    (he : ∀ (s : Shared) (H : Hp) (C : Addr) (cl : List (Str × Addr)) (fp : List Addr) (Δ' : Dx), Δ'.K = Δ.K → PE (X.blk s H scope (compEnvC scope cl C X.env) fp) elt (tE Δ' f))
    (hws : ∀ i ∈ ws, i ∈ own.map (·.2) := by decide) (hs : ∀ x, foldedSetIterable iter X.env x = pure x := by intro _; rfl) :
    PS X (.Assign [.Name y py] (.ListComp elt [⟨tg, iter, ifs, 0⟩] scope pos) spos) (tS Δ (sAsg (eLc it g t f (own.map (·.2))) (gN i))) := by
  let tg' : TG := fun v σ H Q => ∃ Δ' : Dx, Δ'.K = Δ.K ∧ tG Δ' ws g v σ H Q
  let tt' : TT := fun σ H Q => ∃ Δ' : Dx, Δ'.K = Δ.K ∧ tT Δ' t σ H Q
  let te' : TE := fun σ H Q => ∃ Δ' : Dx, Δ'.K = Δ.K ∧ tE Δ' f σ H Q
  exact (ps_setLc (g := tg') (tt := tt') (te := te') hc hN hy hyl hsw hi bok (fun s H C cl fp => ⟨fun pins s' σ H' v u Q I r ⟨Δ', e, h⟩ => (hg s H C cl fp Δ' e).run pins s' σ H' v u Q I r h⟩)
    (fun s H C cl fp => ⟨fun pins s' σ H' Q I ⟨Δ', e, h⟩ => (ht s H C cl fp Δ' e).run pins s' σ H' Q I h⟩) (fun s H C cl fp => ⟨fun pins s' σ H' Q I ⟨Δ', e, h⟩ => (he s H C cl fp Δ' e).run pins s' σ H' Q I h⟩) hs).imp
    fun D σ H h => asg_of (us := [i]) (fun σ H Q h => lc_of (fun Δ' e v σ H Q h => ⟨Δ', e, h⟩) (fun Δ' e σ H Q h => ⟨Δ', e, h⟩) (fun Δ' e σ H Q h => ⟨Δ', e, h⟩) hws σ H Q h) (fun v σ H Q ⟨am, F, c, r, P, ok, s, h, kq⟩ => kq _ F _ H h.2 (Le.refl F) (ok.put s i) (.one σ i _)) D σ H h
end
end Dl
set_option Elab.async false
set_option maxRecDepth 100000
set_option linter.all false
set_option autoImplicit false
namespace Dl
open PySem L2
variable [TabF]
section
variable {X : Cx} {Δ : Dx} {a b e : Expr} {fa fb fc : WE} {pos : Pos} {es : List Expr} {fr : WA} {st : Stmt} {rest sa sb : List Stmt} {ws wt : WS}
/-! ### a name's own list, changed -/
def ownD (c : Cf) (i : Nat) (k : List Px → Prop) : Prop := match c.env[i]? with
  | some (some (.own xs)) => k xs
  | _ => False
def isOwn (c : Cf) (i : Nat) : Prop := ownD c i fun _ => True
theorem Ok.mine {am : Addr} {F : Hp} {σ : St} {H : Hp} {c : Cf} (k : Ok Δ am F σ H c) {i : Nat} {q : List Px → Prop} (h : ownD c i q) :
    ∃ a vs xs, q xs ∧ c.env[i]? = some (some (.own xs)) ∧ σ[i]? = some (some (.ref a)) ∧ H a = some (.lst vs) ∧ F a = none ∧ Δ.H0 a = none ∧ RpA F vs xs := by
  unfold ownD at h
  split at h
  · rename_i xs e
    obtain ⟨v, h1, a, vs, e1, e2, e3, e4, e5⟩ := k.sv i _ e
    subst e1
    exact ⟨a, vs, xs, h, e, h1, e2, e3, e4, e5⟩
  · exact h.elim
theorem set_self {α : Type} {l : List α} {i : Nat} {x : α} (h : l[i]? = some x) : l.set i x = l := by
  apply List.ext_getElem?
  intro j
  by_cases e : i = j
  · subst e
    rw [List.getElem?_set_self (List.getElem?_eq_some_iff.mp h).1, h]
  · rw [List.getElem?_set_ne e]
theorem Ok.mutate {am : Addr} {F : Hp} {σ : St} {H : Hp} {c : Cf} (k : Ok Δ am F σ H c) {i : Nat} {a : Addr} {vs us : List V} {xs ys : List Px} (e : c.env[i]? = some (some (.own xs))) (h1 : σ[i]? = some (some (.ref a))) (h2 : H a = some (.lst vs)) (h3 : F a = none) (h4 : Δ.H0 a = none) (r : RpA F us ys) :
    Ok Δ am F σ (upd H a (.lst us)) (putE c i (.own ys)) := by
  have no : ∀ (j : Nat) (zs : Rv), j ≠ i → c.env[j]? = some (some zs) → zs.mu → σ[j]? ≠ some (some (.ref a)) := fun j zs n p mu z => k.di j i zs _ n p e mu True.intro (z.trans h1.symm)
  have k1 : Ok Δ am F σ H { c with env := c.env.set i none } := ⟨k.fh, k.f0, k.fr, k.tb, k.pr, k.al, k.gn, by simpa using k.len, fun j r e => by
      rw [env_get] at e
      split at e
      · cases e
      · exact k.sv j r e, fun j l ys zs n p q => by
      rw [env_get] at p q
      split at p
      · cases p
      · split at q
        · cases q
        · exact k.di j l ys zs n p q⟩
  have hi : i < c.env.length := (List.getElem?_eq_some_iff.mp e).1
  have no' : ∀ (j : Nat) (zs : Rv), (c.env.set i none)[j]? = some (some zs) → zs.mu → σ[j]? ≠ some (some (.ref a)) := fun j zs p => by
    rw [env_get] at p
    split at p
    · cases p
    · rename_i q
      exact no j zs (fun z => q ⟨z, hi⟩) p
  have k2 := (k1.chg (ws := us) h2 h3 h4 no').put (r := .own ys) (v := .ref a) ⟨⟨a, us, rfl, upd_same, h3, h4, r⟩, fun _ j zs p => no' j zs p⟩ i
  rw [set_self h1] at k2
  have : putE c i (.own ys) = { c with env := (c.env.set i none).set i (some (.own ys)) } := by
    unfold putE
    rw [List.set_set]
  rw [this]
  exact k2
def eApp (i : Nat) (fb : WE) : WE := fun c P X => isOwn c i ∧ fb c (fun r c1 => asD r fun y => ownD c1 i fun xs => xs.length < 1000000 ∧ P (.d .none) (putE c1 i (.own (xs ++ [y])))) X
def eExt (i : Nat) (fb : WE) : WE := fun c P X => isOwn c i ∧ fb c (fun r c1 => asL r fun ys => ownD c1 i fun xs => xs.length + ys.length ≤ 1000000 ∧ P (.d .none) (putE c1 i (.own (xs ++ ys)))) X
def ePop (i : Nat) : WE := fun c P _ => ownD c i fun xs => match xs[xs.length - 1]? with
  | some y => P (.d y) (putE c i (.own xs.dropLast))
  | none => False
section
variable {x : Str} {p p2 : Pos}
theorem de_app (i : Nat) (hb : PE X b (tE Δ fb)) (hN : X.N[i]? = some x := by rfl)
    (hv : Vis X.env.scope x := by first | exact Or.inl rfl | exact Or.inr (Or.inl rfl) | exact Or.inr (Or.inr rfl)) (hd : (x == ("__debug__" : Str)) = false := by decide)
    (hcd : (x == ("__classdict__" : Str)) = false := by decide) (hst : starEach (b :: []) X.env = (false, eval b X.env) :: starEach [] X.env := by rfl) (hln : (p2.endLine == pos.line) = true := by rfl)
    (hfw : ((backTo pos (starEach [b] X.env)).all (fun x => !x.1) && (backToKw pos (keywordEach [] X.env)).all (fun x => x.1.isSome) && decide ([b].length + ([] : List Keyword).length + (if ([] : List Keyword).isEmpty then 0 else 1) < 30)) = true := by rfl) : PE X (.Call (.Attribute (.Name x p) "append" p2) [b] [] pos) (tE Δ (eApp i fb)) := by
  refine (pe_bm PySem.F.plainAttrs_list PySem.F.slot_list_append PySem.F.type_list_append mt_append (pv i hN hv hd hcd) (pa_cons hb pa_nil hst) rfl hfw hln hst).imp fun σ H Q ⟨am, F, c, P, XX, ok, ⟨ho, hf⟩, kq, kx⟩ => ?_
  obtain ⟨a, vs, xs, _, e0, h1, h2, h3, h4, h5⟩ := ok.mine ho
  refine ⟨_, h1, Or.inl ⟨rfl, _, SqL.of h2⟩, am, F, c, _, XX, ok, hf, fun r c1 F1 v1 H1 p1 l1 o1 s1 => ?_, kx⟩
  obtain ⟨y, F2, hy, l2, o2, ry⟩ := s1.data o1 p1
  obtain ⟨a', us, ys, q, e1, g1, g2, g3, g4, g5⟩ := o2.mine hy
  rw [h1] at g1
  cases g1
  exact ⟨a, us, v1, rfl, rfl, g2, Nat.lt_of_lt_of_le (show us.length < 1000000 by rw [g5.length]; exact q.1) (line_of (Nat.le_refl _)), kq _ _ F2 _ _ q.2 (l1.trans l2) (o2.mutate e1 h1 g2 g3 g4 (g5.append (.one ry))) (.of .non)⟩
theorem de_ext (i : Nat) (hb : PE X b (tE Δ fb)) (hN : X.N[i]? = some x := by rfl)
    (hv : Vis X.env.scope x := by first | exact Or.inl rfl | exact Or.inr (Or.inl rfl) | exact Or.inr (Or.inr rfl)) (hd : (x == ("__debug__" : Str)) = false := by decide)
    (hcd : (x == ("__classdict__" : Str)) = false := by decide) (hst : starEach (b :: []) X.env = (false, eval b X.env) :: starEach [] X.env := by rfl) (hln : (p2.endLine == pos.line) = true := by rfl)
    (hfw : ((backTo pos (starEach [b] X.env)).all (fun x => !x.1) && (backToKw pos (keywordEach [] X.env)).all (fun x => x.1.isSome) && decide ([b].length + ([] : List Keyword).length + (if ([] : List Keyword).isEmpty then 0 else 1) < 30)) = true := by rfl) : PE X (.Call (.Attribute (.Name x p) "extend" p2) [b] [] pos) (tE Δ (eExt i fb)) := by
  refine (pe_bm PySem.F.plainAttrs_list PySem.F.slot_list_extend PySem.F.type_list_extend mt_extend (pv i hN hv hd hcd) (pa_cons hb pa_nil hst) rfl hfw hln hst).imp fun σ H Q ⟨am, F, c, P, XX, ok, ⟨ho, hf⟩, kq, kx⟩ => ?_
  obtain ⟨a, vs, xs, _, e0, h1, h2, h3, h4, h5⟩ := ok.mine ho
  refine ⟨_, h1, Or.inl ⟨rfl, _, SqL.of h2⟩, am, F, c, _, XX, ok, hf, fun r c1 F1 v1 H1 p1 l1 o1 s1 => ?_, kx⟩
  obtain ⟨b', zs, ws, F2, rfl, hy, l2, o2, q1, q2⟩ := asL_of o1 s1 p1
  obtain ⟨a', us, ys, q, e1, g1, g2, g3, g4, g5⟩ := o2.mine hy
  rw [h1] at g1
  cases g1
  exact ⟨a, b', us, zs, rfl, rfl, g2, o2.fh _ _ q1, line_of (by rw [g5.length, q2.length]; exact q.1), kq _ _ F2 _ _ q.2 (l1.trans l2) (o2.mutate e1 h1 g2 g3 g4 (g5.append q2)) (.of .non)⟩
theorem de_pop (i : Nat) (hN : X.N[i]? = some x := by rfl)
    (hv : Vis X.env.scope x := by first | exact Or.inl rfl | exact Or.inr (Or.inl rfl) | exact Or.inr (Or.inr rfl)) (hd : (x == ("__debug__" : Str)) = false := by decide)
    (hcd : (x == ("__classdict__" : Str)) = false := by decide) (hln : (p2.endLine == pos.line) = true := by rfl) : PE X (.Call (.Attribute (.Name x p) "pop" p2) [] [] pos) (tE Δ (ePop i)) := by
  refine (pe_bm0 PySem.F.plainAttrs_list PySem.F.slot_list_pop PySem.F.type_list_pop mt_pop (pv i hN hv hd hcd) rfl hln).imp fun σ H Q ⟨am, F, c, P, XX, ok, hf, kq, kx⟩ => ?_
  obtain ⟨a, vs, xs, q, e0, h1, h2, h3, h4, h5⟩ := ok.mine hf
  refine ⟨_, h1, Or.inl ⟨rfl, _, SqL.of h2⟩, ?_⟩
  split at q
  · rename_i y ey
    obtain ⟨v, ev, rv⟩ := h5.get ey
    refine ⟨a, vs, v, rfl, rfl, h2, (by rw [h5.length]; exact ev), kq _ _ F _ _ q (Le.refl F) (ok.mutate e0 h1 h2 h3 h4 h5.dropLast) (.of rv)⟩
  · exact q.elim
/-- name[k] = e -/
def sSetI (i : Nat) (fe fi : WE) : WS := fun c P X => isOwn c i ∧ fe c (fun r c1 => asD r fun y => isOwn c1 i ∧ fi c1 (fun r2 c2 => match r2 with
  | .d (.int k) => ownD c2 i fun xs => (match ixN xs.length k with
    | some j => P (.nx (putE c2 i (.own (xs.set j y))))
    | none => False)
  | _ => False) X) X
/-- name op= e -/
def sAug (i : Nat) (o : OD) (fb : WE) : WS := fun c P X => hasD c i ∧ fb c (fun r c1 => asD r fun y => match c1.env[i]? with
  | some (some (.d x)) => o x y fun rr => P (.nx (putE c1 i rr))
  | _ => False) X
theorem ds_aug (i : Nat) {op : Operator} {o : OD} (hN : X.N.Nodup) (hb : PE X b (tE Δ fb)) (ho : OpD X Δ (inplaceOp op) o) (hi : X.N[i]? = some x := by rfl) (hx : Loc X.env.scope x := by first | exact Or.inl rfl | exact Or.inr rfl)
    (hf : X.fn x = true ∨ X.env.scope.names.lookup x = some .local := by first | exact .inl rfl | exact .inr rfl) : PS X (.AugAssign (.Name x p) op b pos) (tS Δ (sAug i o fb)) := by
  obtain ⟨r, h1, h2⟩ := ho.ex
  refine (ps_aug (ti := r) hN hi hx hb h1 hf).imp fun D σ H ⟨am, F, c, P, XX, ok, ⟨hd, hf⟩, kf, kx⟩ => ?_
  obtain ⟨_, v, _, hv, _⟩ := ok.look hd
  refine ⟨v, hv, am, F, c, _, XX, ok, hf, fun r2 c2 F2 v2 H2 p2 l2 o2 s2 => ?_, kx am⟩
  obtain ⟨y, F3, hy, l3, o3, ry⟩ := s2.data o2 p2
  split at hy
  · rename_i z ez
    obtain ⟨w, g1, g2⟩ := o3.sv i _ ez
    rw [hv] at g1
    cases g1
    exact h2 am F3 σ H2 c2 v v2 z y _ _ o3 g2 ry hy fun rr F4 v4 H4 p4 l4 o4 s4 => kf.1 _ am F4 _ H4 p4 ((l2.trans l3).trans l4) (o4.put s4 i)
  · exact hy.elim
end
theorem di_add : OpD X Δ (inplaceOp .Add) (iD (fun i j => .int (i + j)) fun _ _ => True) := op_iD0 iop_add fun _ _ _ => .int _
theorem CMul2.ok {i j : Int} (h : CMul2 i j) : PySem.IntMulOk i j := by
  rcases h with h | h | ⟨a, b, h1, h2, h3, h4, h5⟩
  · exact CMul.ok (.inl h)
  · exact CMul.ok (.inr h)
  · exact (wide_mul h1 h2 h3 h4 h5).ok
/-! ### loops -/
def forW (g : WG) (f : WS) (X : XP) (P : Fl → Prop) : List Px → Cf → Prop
  | [], c => P (.nx c)
  | x :: xs, c => g (.d x) c fun c1 => f c1 (fun fl => match fl with
    | .nx c2 => forW g f X P xs c2
    | .ct c2 => forW g f X P xs c2
    | .bk c2 => P (.nx c2)
    | .rt r gs => P (.rt r gs)) X
def sFor (it : WI) (g : WG) (f : WS) : WS := fun c P X => it c (fun xs c1 => forW g f X P xs c1) X
theorem ds_for {tg iter : Expr} {body : List Stmt} {it : WI} {g : WG} {us : List Nat} (hp : PassesOwn (model X.prog X.w) X.A X.env X.xe) (hc : X.calm = true) (hi : PI X tg iter (tI Δ it)) (hg : PG X tg (tG Δ us g)) (hb : PSs X body (tS Δ ws))
    (hs : ∀ x, foldedSetIterable iter X.env x = pure x := by intro _; rfl) : PS X (.For tg iter body [] pos) (tS Δ (sFor it g ws)) := by
  refine (ps_for hp hc hi hg hb hs).imp fun D σ H ⟨am, F, c, P, XX, ok, hf, kf, kx⟩ => ?_
  refine ⟨am, F, c, _, XX, ok, hf, fun xs c1 F1 H1 J p1 l1 o1 wk => ?_, kx am⟩
  refine for_it wk (fun i σ H => ∃ am' F' c', Le F1 F' ∧ Ok Δ am' F' σ H c' ∧ forW g ws XX P (xs.drop i) c') ⟨am, F1, c1, Le.refl F1, o1, p1⟩ (fun i σ H _ ⟨am', F', c', l, o, _⟩ => l.trans o.fh) ?_ ?_
  · rintro i v σ2 H2 H3 hi ⟨am', F', c', l2, o2, hw⟩ ⟨x, hx, hy⟩
    have hdrop : xs.drop i = x :: xs.drop (i + 1) := by
      rw [List.drop_eq_getElem_cons hi]
      rw [List.getElem?_eq_getElem hi] at hx
      cases hx
      rfl
    rw [hdrop] at hw
    obtain ⟨F3, l3, o3, rx⟩ : ∃ F3, Le F' F3 ∧ Ok Δ am' F3 σ2 H3 c' ∧ Rp F3 v x := by
      rcases hy with ⟨rfl, rx⟩ | ⟨T, vs, ds, rfl, hT, rfl, rfl, rx⟩
      · exact ⟨F', Le.refl F', o2, rx.mono l2⟩
      · obtain ⟨o3, l3, rp⟩ := o2.tupN hT (rx.mono l2)
        exact ⟨_, l3, o3, rp⟩
    refine ⟨am', F3, c', .d x, _, o3, .of rx, hw, fun c4 F4 σ4 H4 p4 l4 o4 _ => ?_⟩
    have ll : Le F F4 := ((l1.trans l2).trans l3).trans l4
    have ll1 : Le F1 F4 := (l2.trans l3).trans l4
    exact ⟨am', F4, c4, _, XX, o4, p4, ⟨fun c5 am5 F5 σ5 H5 p5 l5 o5 => ⟨am5, F5, c5, ll1.trans l5, o5, p5⟩, fun c5 am5 F5 σ5 H5 p5 l5 o5 => kf.1 c5 am5 F5 σ5 H5 p5 (ll.trans l5) o5,
      fun c5 am5 F5 σ5 H5 p5 l5 o5 => ⟨am5, F5, c5, ll1.trans l5, o5, p5⟩, fun r gs am5 F5 H5 v5 p5 l5 o5 s5 => kf.2.2.2 r gs am5 F5 H5 v5 p5 (ll.trans l5) o5 s5⟩, kx.le ll⟩
  · rintro σ2 H2 ⟨am', F', c', l2, o2, hw⟩
    rw [List.drop_length] at hw
    exact kf.1 c' am' F' σ2 H2 hw (l1.trans l2) o2
def whW (t : WT) (f : WS) (X : XP) (P : Fl → Prop) : Nat → Cf → Prop
  | 0, _ => False
  | n + 1, c => t c (fun b c1 => if b = true then f c1 (fun fl => match fl with
      | .nx c2 => whW t f X P n c2
      | .ct c2 => whW t f X P n c2
      | .bk c2 => P (.nx c2)
      | .rt r gs => P (.rt r gs)) X else P (.nx c1)) X
def sWh (t : WT) (f : WS) : WS := fun c P X => ∃ n, whW t f X P n c
theorem ds_wh {cnd : Expr} {body : List Stmt} {fA : WT} (hp : PassesOwn (model X.prog X.w) X.A X.env X.xe) (hc : PT X cnd (tT Δ fA)) (hb : PSs X body (tS Δ ws)) : PS X (.While cnd body [] pos) (tS Δ (sWh fA ws)) := by
  refine (ps_while hp hc hb).imp fun D σ H ⟨am, F, c, P, XX, ok, ⟨n, hf⟩, kf, kx⟩ => ?_
  refine ⟨fun m σ H => ∃ am' F' c', Le F F' ∧ Ok Δ am' F' σ H c' ∧ whW fA ws XX P m c', ⟨n, am, F, c, Le.refl F, ok, hf⟩, ?_⟩
  rintro m σ2 H2 ⟨am', F', c', l2, o2, hw⟩
  cases m with
  | zero => exact hw.elim
  | succ m =>
    refine ⟨am', F', c', _, XX, o2, hw, fun b c3 F3 H3 p3 l3 o3 => ?_, (kx am').le l2⟩
    cases b with
    | true =>
      rw [if_pos rfl] at p3 ⊢
      refine ⟨fun σ H => ∃ am' F' c', Le F F' ∧ Ok Δ am' F' σ H c' ∧ whW fA ws XX P m c', fun σ' H' h => ⟨m, Nat.lt_succ_self m, h⟩, am', F3, c3, _, XX, o3, p3, ?_, kx.le (l2.trans l3)⟩
      have ll : Le F F3 := l2.trans l3
      exact ⟨fun c5 am5 F5 σ5 H5 p5 l5 o5 => ⟨am5, F5, c5, ll.trans l5, o5, p5⟩, fun c5 am5 F5 σ5 H5 p5 l5 o5 => kf.1 c5 am5 F5 σ5 H5 p5 (ll.trans l5) o5,
        fun c5 am5 F5 σ5 H5 p5 l5 o5 => ⟨am5, F5, c5, ll.trans l5, o5, p5⟩, fun r gs am5 F5 H5 v5 p5 l5 o5 s5 => kf.2.2.2 r gs am5 F5 H5 v5 p5 (ll.trans l5) o5 s5⟩
    | false =>
      rw [if_neg Bool.false_ne_true] at p3 ⊢
      exact kf.1 c3 am' F3 σ2 H3 p3 (l2.trans l3) o3
end
end Dl
set_option Elab.async false
set_option maxRecDepth 100000
set_option linter.all false
set_option autoImplicit false
namespace Dl
open PySem L2
variable [TabF]
/-! ### the drawing state: read, written, made -/
theorem k_ls : ¬ (Sum.inr ("left" : Str) : Key) = (Sum.inr ("seed" : Str) : Key) := by decide +kernel
theorem k_lc : ¬ (Sum.inr ("left" : Str) : Key) = (Sum.inr ("cells" : Str) : Key) := by decide +kernel
theorem k_lp : ¬ (Sum.inr ("left" : Str) : Key) = (Sum.inr ("spot" : Str) : Key) := by decide +kernel
theorem k_sc : ¬ (Sum.inr ("seed" : Str) : Key) = (Sum.inr ("cells" : Str) : Key) := by decide +kernel
theorem k_sp : ¬ (Sum.inr ("seed" : Str) : Key) = (Sum.inr ("spot" : Str) : Key) := by decide +kernel
theorem k_cp : ¬ (Sum.inr ("cells" : Str) : Key) = (Sum.inr ("spot" : Str) : Key) := by decide +kernel
def genKV (l s : Int) (ac : Addr) (p : Int) : List (Key × V) := [(.inr "left", .int l), (.inr "seed", .int s), (.inr "cells", .ref ac), (.inr "spot", .int p)]
theorem gv_left (l s : Int) (ac : Addr) (p : Int) : valV (genKV l s ac p) (Sum.inr ("left" : Str) : Key) = some (.int l) := valV_pos rfl
theorem gv_seed (l s : Int) (ac : Addr) (p : Int) : valV (genKV l s ac p) (Sum.inr ("seed" : Str) : Key) = some (.int s) := by
  unfold genKV
  rw [valV_neg k_ls, valV_pos rfl]
theorem gv_cells (l s : Int) (ac : Addr) (p : Int) : valV (genKV l s ac p) (Sum.inr ("cells" : Str) : Key) = some (.ref ac) := by
  unfold genKV
  rw [valV_neg k_lc, valV_neg k_sc, valV_pos rfl]
theorem gv_spot (l s : Int) (ac : Addr) (p : Int) : valV (genKV l s ac p) (Sum.inr ("spot" : Str) : Key) = some (.int p) := by
  unfold genKV
  rw [valV_neg k_lp, valV_neg k_sp, valV_neg k_cp, valV_pos rfl]
theorem gp_left (l s : Int) (ac : Addr) (p l' : Int) : putK (genKV l s ac p) (Sum.inr ("left" : Str) : Key) (.int l') = genKV l' s ac p := by
  unfold putK genKV
  simp only [List.any_cons, decide_true, Bool.true_or, if_true, List.map_cons, List.map_nil, if_neg (Ne.symm k_ls), if_neg (Ne.symm k_lc), if_neg (Ne.symm k_lp)]
theorem gp_spot (l s : Int) (ac : Addr) (p p' : Int) : putK (genKV l s ac p) (Sum.inr ("spot" : Str) : Key) (.int p') = genKV l s ac p' := by
  unfold putK genKV
  simp only [List.any_cons, decide_true, Bool.true_or, Bool.or_true, if_true, List.map_cons, List.map_nil, if_neg k_lp, if_neg k_sp, if_neg k_cp]
section
variable {X : Cx} {Δ : Dx} {a b e : Expr} {fa fb fc fd : WE} {pos : Pos} {x : Str} {p p2 p3 : Pos} {k : Nat}
/-- m['left'], .. -/
def eGL (i : Nat) : WE := fun c P _ => c.env[i]? = some (some .gen) ∧ c.g.isSome = true ∧ ∀ l : Int, 0 ≤ l → P (.d (.int l)) c
def eGS (i : Nat) : WE := fun c P _ => c.env[i]? = some (some .gen) ∧ c.g.isSome = true ∧ ∀ s : Int, 0 ≤ s → s < 2147483647 → P (.d (.int s)) c
def eGC (i : Nat) : WE := fun c P _ => c.env[i]? = some (some .gen) ∧ c.g.isSome = true ∧ ∀ ns : List Int, ns ≠ [] → ns.length ≤ 1000 → P (.d (.list (ns.map .int))) c
def eGP (i : Nat) : WE := fun c P _ => c.env[i]? = some (some .gen) ∧ ∃ n, c.g = some n ∧ n ≤ 2 ^ 40 ∧ ∀ s : Int, 0 ≤ s → s ≤ n → P (.d (.int s)) c
theorem Ok.gen {am : Addr} {F : Hp} {σ : St} {H : Hp} {c : Cf} (k : Ok Δ am F σ H c) {i : Nat} (h : c.env[i]? = some (some .gen)) : σ[i]? = some (some (.ref am)) := by
  obtain ⟨v, h1, h2⟩ := k.sv i _ h
  have e : v = .ref am := h2
  rw [h1, e]
theorem Ok.gen' {am : Addr} {F : Hp} {σ : St} {H : Hp} {c : Cf} (k : Ok Δ am F σ H c) (h : c.g.isSome = true) : ∃ n left seed spot ac ns, c.g = some n ∧ H am = some (.dK (genKV left seed ac spot)) ∧
    F ac = some (.lst (ns.map V.int)) ∧ ns ≠ [] ∧ ns.length ≤ 1000 ∧ 0 ≤ left ∧ 0 ≤ seed ∧ seed < 2147483647 ∧ 0 ≤ spot ∧ spot ≤ (n : Int) ∧ n ≤ 2 ^ 40 := by
  cases e : c.g with
  | none => rw [e] at h; cases h
  | some n =>
    obtain ⟨h1, h2, l, s, sp, ac, ns, h3⟩ := k.gn n e
    exact ⟨n, l, s, sp, ac, ns, rfl, h3⟩
section
variable (i : Nat) (hu : X.A.units + 1 < cLine) (hN : X.N[i]? = some x)
    (hv : Vis X.env.scope x) (hd : (x == ("__debug__" : Str)) = false) (hcd : (x == ("__classdict__" : Str)) = false)
include hu hN hv hd hcd
theorem de_gl : PE X (.Subscript (.Name x p) (.Constant (.str "left") k p2) pos) (tE Δ (eGL i)) := by
  refine (pe_dget hu (pv i hN hv hd hcd) (pe_str (x := "left")) (fun _ _ => rfl)).imp fun σ H Q ⟨am, F, c, P, XX, ok, ⟨h1, h2, h3⟩, kq, kx⟩ => ?_
  obtain ⟨n, left, seed, spot, ac, ns, q1, q2, q3⟩ := ok.gen' h2
  exact ⟨_, ok.gen h1, am, .int left, rfl, (gv_left left seed ac spot) ▸ DGet.k (k := (Sum.inr ("left" : Str) : Key)) q2, kq _ c F _ H (h3 left q3.2.2.2.1) (Le.refl F) ok (.of (.int _))⟩
theorem de_gs : PE X (.Subscript (.Name x p) (.Constant (.str "seed") k p2) pos) (tE Δ (eGS i)) := by
  refine (pe_dget hu (pv i hN hv hd hcd) (pe_str (x := "seed")) (fun _ _ => rfl)).imp fun σ H Q ⟨am, F, c, P, XX, ok, ⟨h1, h2, h3⟩, kq, kx⟩ => ?_
  obtain ⟨n, left, seed, spot, ac, ns, q1, q2, q3⟩ := ok.gen' h2
  exact ⟨_, ok.gen h1, am, .int seed, rfl, (gv_seed left seed ac spot) ▸ DGet.k (k := (Sum.inr ("seed" : Str) : Key)) q2, kq _ c F _ H (h3 seed q3.2.2.2.2.1 q3.2.2.2.2.2.1) (Le.refl F) ok (.of (.int _))⟩
theorem de_gp : PE X (.Subscript (.Name x p) (.Constant (.str "spot") k p2) pos) (tE Δ (eGP i)) := by
  refine (pe_dget hu (pv i hN hv hd hcd) (pe_str (x := "spot")) (fun _ _ => rfl)).imp fun σ H Q ⟨am, F, c, P, XX, ok, ⟨h1, n, h2, h2', h3⟩, kq, kx⟩ => ?_
  obtain ⟨m, left, seed, spot, ac, ns, q1, q2, q3⟩ := ok.gen' (by rw [h2]; rfl)
  rw [h2] at q1
  cases q1
  exact ⟨_, ok.gen h1, am, .int spot, rfl, (gv_spot left seed ac spot) ▸ DGet.k (k := (Sum.inr ("spot" : Str) : Key)) q2, kq _ c F _ H (h3 spot q3.2.2.2.2.2.2.1 q3.2.2.2.2.2.2.2.1) (Le.refl F) ok (.of (.int _))⟩
theorem de_gc : PE X (.Subscript (.Name x p) (.Constant (.str "cells") k p2) pos) (tE Δ (eGC i)) := by
  refine (pe_dget hu (pv i hN hv hd hcd) (pe_str (x := "cells")) (fun _ _ => rfl)).imp fun σ H Q ⟨am, F, c, P, XX, ok, ⟨h1, h2, h3⟩, kq, kx⟩ => ?_
  obtain ⟨n, left, seed, spot, ac, ns, q1, q2, q3⟩ := ok.gen' h2
  exact ⟨_, ok.gen h1, am, .ref ac, rfl, (gv_cells left seed ac spot) ▸ DGet.k (k := (Sum.inr ("cells" : Str) : Key)) q2, kq _ c F _ H (h3 ns q3.2.1 q3.2.2.1) (Le.refl F) ok (.of (.lst q3.1 (RpA.map_int ns)))⟩
/-- m['left'] = e, m['spot'] = e -/
def sGL (i : Nat) (fa : WE) : WS := fun c P X => fa c (fun r c1 => c1.env[i]? = some (some .gen) ∧ c1.g.isSome = true ∧ match r with
  | .d (.int l) => 0 ≤ l ∧ P (.nx c1)
  | _ => False) X
def sGP (i : Nat) (fa : WE) : WS := fun c P X => fa c (fun r c1 => c1.env[i]? = some (some .gen) ∧ c1.g.isSome = true ∧ match r with
  | .d (.int s) => 0 ≤ s ∧ ∃ n : Nat, s ≤ n ∧ n ≤ 2 ^ 40 ∧ P (.nx { c1 with g := some n })
  | _ => False) X
omit hu hN hv hd hcd in
theorem Ok.genSet {am : Addr} {F : Hp} {σ : St} {H : Hp} {c : Cf} (k : Ok Δ am F σ H c) (h : c.g.isSome = true) {o : HO} {m : Nat} (h2 : GenAt F (upd H am o) am m) : Ok Δ am F σ (upd H am o) { c with g := some m } := by
  obtain ⟨n, left, seed, spot, ac, ns, q1, q2, q3⟩ := k.gen' h
  obtain ⟨g1, g2, g3⟩ := k.gn n q1
  have ne : ∀ b u, F b = some u → b ≠ am := fun b u e z => by rw [z, g2] at e; cases e
  refine ⟨fun b u e => by rw [upd_ne (ne b u e)]; exact k.fh b u e, k.f0, k.fr, k.tb.upd (fun u e => by
    obtain ⟨_, _, _, _, _, e1, _⟩ := g3
    rw [e1] at e
    cases e
    exact dK_ok), fun b u e n => ?_, fun b e => ⟨?_, (k.al b e).2⟩, fun n' e => ?_, k.len, fun i r e => ?_, k.di⟩
  · have : b ≠ am := by
      rintro rfl
      rcases g1 with z | z
      · exact n z
      · rw [z.2] at e; cases e
    rw [upd_ne this]
    exact k.pr b u e n
  · obtain ⟨_, _, _, _, _, e1, _⟩ := h2
    rw [upd_same] at e1
    exact (k.al b e).1.upd fun ps z => by rw [z] at e1; cases e1
  · have e : some m = some n' := e
    cases e
    exact ⟨g1, g2, h2⟩
  · obtain ⟨v, h1, h2⟩ := k.sv i r e
    refine ⟨v, h1, ?_⟩
    cases r with
    | d x => exact h2
    | gen => exact h2
    | scr ns => exact h2
    | own xs =>
      obtain ⟨a, us, e1, e2, e3⟩ := h2
      exact ⟨a, us, e1, by rw [upd_ne (g3.ne e2)]; exact e2, e3⟩
    | dic D =>
      obtain ⟨a, us, e1, e2, e3⟩ := h2
      exact ⟨a, us, e1, by rw [upd_ne (g3.neD e2 e3.2.2)]; exact e2, e3⟩
theorem ds_gl (ha : PE X a (tE Δ fa)) (hs : swapsWith a (some (.Subscript (.Name x p) (.Constant (.str "left") k p2) p3)) pos.line X.env = pure false) : PS X (.Assign [.Subscript (.Name x p) (.Constant (.str "left") k p2) p3] a pos) (tS Δ (sGL i fa)) := by
  refine (ps_dput hu (pv i hN hv hd hcd) (pe_str (x := "left")) ha hs).imp fun D σ H ⟨am, F, c, P, XX, ok, hf, kf, kx⟩ => ?_
  refine ⟨am, F, c, _, XX, ok, hf, fun r c1 F1 v1 H1 p1 l1 o1 s1 => ?_, kx am⟩
  obtain ⟨h1, h2, p1⟩ := p1
  split at p1
  · rename_i l
    have h3 := s1.1
    cases h3
    obtain ⟨n, left, seed, spot, ac, ns, q1, q2, q3⟩ := o1.gen' h2
    have h4 := DPut.k (k := (Sum.inr ("left" : Str) : Key)) (v := V.int l) q2 (by show 4 < sizeLine; decide)
    rw [gp_left] at h4
    have g2 : GenAt F1 (upd H1 am (.dK (genKV l seed ac spot))) am n := ⟨l, seed, spot, ac, ns, upd_same, q3.1, q3.2.1, q3.2.2.1, p1.1, q3.2.2.2.2⟩
    have o2 := o1.genSet h2 g2
    have ec : { c1 with g := some n } = c1 := by
      obtain ⟨env, g⟩ := c1
      cases q1
      rfl
    rw [ec] at o2
    exact ⟨_, o1.gen h1, am, _, rfl, h4, kf.1 c1 am F1 σ _ p1.2 l1 o2⟩
  · exact p1.elim
theorem ds_gp (ha : PE X a (tE Δ fa)) (hs : swapsWith a (some (.Subscript (.Name x p) (.Constant (.str "spot") k p2) p3)) pos.line X.env = pure false) : PS X (.Assign [.Subscript (.Name x p) (.Constant (.str "spot") k p2) p3] a pos) (tS Δ (sGP i fa)) := by
  refine (ps_dput hu (pv i hN hv hd hcd) (pe_str (x := "spot")) ha hs).imp fun D σ H ⟨am, F, c, P, XX, ok, hf, kf, kx⟩ => ?_
  refine ⟨am, F, c, _, XX, ok, hf, fun r c1 F1 v1 H1 p1 l1 o1 s1 => ?_, kx am⟩
  obtain ⟨h1, h2, p1⟩ := p1
  split at p1
  · rename_i l
    have h3 := s1.1
    cases h3
    obtain ⟨n, left, seed, spot, ac, ns, q1, q2, q3⟩ := o1.gen' h2
    obtain ⟨p0, m, pm, pm2, p1⟩ := p1
    have h4 := DPut.k (k := (Sum.inr ("spot" : Str) : Key)) (v := V.int l) q2 (by show 4 < sizeLine; decide)
    rw [gp_spot] at h4
    have g2 : GenAt F1 (upd H1 am (.dK (genKV left seed ac l))) am m := ⟨left, seed, l, ac, ns, upd_same, q3.1, q3.2.1, q3.2.2.1, q3.2.2.2.1, q3.2.2.2.2.1, q3.2.2.2.2.2.1, p0, pm, pm2⟩
    exact ⟨_, o1.gen h1, am, _, rfl, h4, kf.1 _ am F1 σ _ p1 l1 (o1.genSet h2 g2)⟩
  · exact p1.elim
end
/-! the script -/
def scrD (c : Cf) (i : Nat) (k : List Int → Prop) : Prop := match c.env[i]? with
  | some (some (.scr ns)) => k ns
  | _ => False
theorem Ok.scr {am : Addr} {F : Hp} {σ : St} {H : Hp} {c : Cf} (k : Ok Δ am F σ H c) {i : Nat} {q : List Int → Prop} (h : scrD c i q) : ∃ a ns, q ns ∧ σ[i]? = some (some (.ref a)) ∧ SqL Δ.K F a (ns.map V.int) := by
  unfold scrD at h
  split at h
  · rename_i ns e
    obtain ⟨v, h1, a, e1, e2⟩ := k.sv i _ e
    subst e1
    exact ⟨a, ns, h, h1, e2⟩
  · exact h.elim
def iScr (i : Nat) : WI := fun c P _ => scrD c i fun ns => P (ns.map .int) c
section
variable (i : Nat) (hK : Δ.K = X.K) (hN : X.N[i]? = some x)
    (hv : Vis X.env.scope x) (hd : (x == ("__debug__" : Str)) = false) (hcd : (x == ("__classdict__" : Str)) = false)
include hK hN hv hd hcd
theorem di_scr {tg : Expr} : PI X tg (.Name x p) (tI Δ (iScr i)) := by
  refine (pi_list (pv i hN hv hd hcd)).imp fun σ H R ⟨am, F, c, P, XX, ok, hf, kq, kx⟩ => ?_
  obtain ⟨a, ns, h1, h2, h3⟩ := ok.scr hf
  rw [hK] at h3
  refine ⟨_, h2, a, rfl, ⟨_, sq_le ok.fh h3⟩, kq _ c F H _ h1 (Le.refl F) ok ?_⟩
  have w : L2.Walk (Itl X.K a) (ns.map V.int).length (fun H => SqL X.K H a (ns.map V.int)) (YAt (ns.map V.int)) := walk_list
  rw [(RpA.map_int (F := F) ns).length] at w
  exact w.mono (fun H h => sq_le h h3) fun i H v H' _ _ y => y_at (RpA.map_int ns) i H v H' y
def eSlS (i : Nat) (fl fh : WO) : WE := fun c P X => scrD c i (fun _ => True) ∧ fl c (fun lo c2 => fh c2 (fun hi c3 => scrD c3 i fun ns => P (.own ((cutX ns lo hi).map .int)) c3) X) X
omit hK hN hv hd hcd in
theorem cut_map {α β : Type} (f : α → β) (ns : List α) (lo hi : Option Int) : cutX (ns.map f) lo hi = (cutX ns lo hi).map f := by
  unfold cutX
  rw [List.length_map, List.map_take, List.map_drop]
theorem de_slS {lo hi : Option Expr} {fl fh : WO} (hl : PO X lo (tO Δ fl)) (hh : PO X hi (tO Δ fh)) : PE X (.Subscript (.Name x p) (.Slice lo hi none p2) pos) (tE Δ (eSlS i fl fh)) := by
  refine (pe_slice sl_list (pv i hN hv hd hcd) hl hh).imp fun σ H Q ⟨am, F, c, P, XX, ok, ⟨hd, hf⟩, kq, kx⟩ => ?_
  obtain ⟨a, ns, _, h2, _⟩ := ok.scr hd
  refine ⟨_, h2, am, F, c, _, XX, ok, hf, fun u c2 F2 H2 p2 l2 o2 => ?_, kx⟩
  refine ⟨am, F2, c2, _, XX, o2, p2, fun w c3 F3 H3 p3 l3 o3 => ?_, kx.le l2⟩
  obtain ⟨a', ms, h1, h4, h5⟩ := o3.scr p3
  rw [h2] at h4
  cases h4
  refine ⟨a, _, rfl, hK ▸ sq_le o3.fh h5, fun p hp => ?_⟩
  have r := (RpA.map_int (F := F3) ms).cut u w
  rw [cut_map] at r
  obtain ⟨o', rs⟩ := Rs.fresh o3 hp r
  exact kq _ c3 F3 _ _ h1 (l2.trans l3) o' rs
end
/-! ### the drawing state made and handed back -/
def sRetG (f1 f2 f3 f4 : WE) : WS := fun c P X => c.g = none ∧ f1 c (fun r1 c1 => match r1 with
  | .d (.int l) => 0 ≤ l ∧ f2 c1 (fun r2 c2 => match r2 with
    | .d (.int s) => 0 ≤ s ∧ s < 2147483647 ∧ f3 c2 (fun r3 c3 => asL r3 fun xs => ∃ ns : List Int, xs = ns.map .int ∧ ns ≠ [] ∧ ns.length ≤ 1000 ∧ f4 c3 (fun r4 c4 => match r4 with
      | .d (.int z) => z = 0 ∧ c4.g = none ∧ P (.rt .gen (some 0))
      | _ => False) X) X
    | _ => False) X
  | _ => False) X
theorem mg4 (l s : Int) (ac : Addr) (p : Int) : mergeK [] (genKV l s ac p) = genKV l s ac p := by
  unfold mergeK genKV
  simp only [List.foldl_cons, List.foldl_nil]
  have e1 : putK ([] : List (Key × V)) (Sum.inr ("left" : Str) : Key) (.int l) = [(Sum.inr ("left" : Str), V.int l)] := putK_new _ rfl
  have e2 : putK [((Sum.inr ("left" : Str) : Key), V.int l)] (Sum.inr ("seed" : Str) : Key) (.int s) = [((Sum.inr ("left" : Str) : Key), V.int l), (Sum.inr ("seed" : Str), V.int s)] := putK_new _ (by rw [valV_neg k_ls]; rfl)
  have e3 : putK [((Sum.inr ("left" : Str) : Key), V.int l), (Sum.inr ("seed" : Str), V.int s)] (Sum.inr ("cells" : Str) : Key) (.ref ac) = [((Sum.inr ("left" : Str) : Key), V.int l), (Sum.inr ("seed" : Str), V.int s), (Sum.inr ("cells" : Str), V.ref ac)] :=
    putK_new _ (by rw [valV_neg k_lc, valV_neg k_sc]; rfl)
  rw [e1, e2, e3]
  exact putK_new _ (by rw [valV_neg k_lp, valV_neg k_sp, valV_neg k_cp]; rfl)
section
variable {e1 e2 e3 e4 : Expr} {f1 f2 f3 f4 : WE} {q1 q2 q3 q4 : Pos} {k1 k2 k3 k4 : Nat}
theorem ds_retG (a0 : Δ.a0 = none) (h1 : ∀ Δ' : Dx, Δ'.K = Δ.K → PE X e1 (tE Δ' f1)) (h2 : ∀ Δ' : Dx, Δ'.K = Δ.K → PE X e2 (tE Δ' f2)) (h3 : ∀ Δ' : Dx, Δ'.K = Δ.K → PE X e3 (tE Δ' f3)) (h4 : ∀ Δ' : Dx, Δ'.K = Δ.K → PE X e4 (tE Δ' f4)) :
    PS X (.Return (some (.Dict [some (.Constant (.str "left") k1 q1), some (.Constant (.str "seed") k2 q2), some (.Constant (.str "cells") k3 q3), some (.Constant (.str "spot") k4 q4)] [e1, e2, e3, e4] p)) pos) (tS Δ (sRetG f1 f2 f3 f4)) := by
  let t1 : TE := fun σ H Q => ∃ Δ' : Dx, Δ'.K = Δ.K ∧ tE Δ' f1 σ H Q
  let t2 : TE := fun σ H Q => ∃ Δ' : Dx, Δ'.K = Δ.K ∧ tE Δ' f2 σ H Q
  let t3 : TE := fun σ H Q => ∃ Δ' : Dx, Δ'.K = Δ.K ∧ tE Δ' f3 σ H Q
  let t4 : TE := fun σ H Q => ∃ Δ' : Dx, Δ'.K = Δ.K ∧ tE Δ' f4 σ H Q
  have g1 : PE X e1 t1 := ⟨fun pins s σ H Q I ⟨Δ', e, h⟩ => (h1 Δ' e).run pins s σ H Q I h⟩
  have g2 : PE X e2 t2 := ⟨fun pins s σ H Q I ⟨Δ', e, h⟩ => (h2 Δ' e).run pins s σ H Q I h⟩
  have g3 : PE X e3 t3 := ⟨fun pins s σ H Q I ⟨Δ', e, h⟩ => (h3 Δ' e).run pins s σ H Q I h⟩
  have g4 : PE X e4 t4 := ⟨fun pins s σ H Q I ⟨Δ', e, h⟩ => (h4 Δ' e).run pins s σ H Q I h⟩
  refine (ps_ret (pe_disp (pps_cons (pe_str (x := "left")) g1 (pps_cons (pe_str (x := "seed")) g2 (pps_cons (pe_str (x := "cells")) g3 (pps_cons (pe_str (x := "spot")) g4 pps_nil)))) rfl rfl (fun z => nomatch z) (show 4 ≤ 15 by decide))).imp fun D σ H ⟨am, F, c, P, XX, ok, ⟨cg, hf⟩, kf, kx⟩ => ?_
  intro d hd
  have h0 : Δ.H0 d = none := ok.new hd
  have fd : F d = none := ok.fh.nn hd
  have f00 : Δ.F0 d = none := ok.f0.nn fd
  have na : Δ.a0 ≠ some d := fun z => (ok.al d z).2 h0
  have no : ∀ (i : Nat) (r : Rv), c.env[i]? = some (some r) → r.mu → σ[i]? ≠ some (some (.ref d)) := fun i xs e mu z => by
    obtain ⟨v, w1, s1⟩ := ok.sv i _ e
    obtain ⟨a, vs, w2, w3, _⟩ := s1.at mu
    subst w2
    rw [z] at w1
    cases w1
    rw [hd] at w3; cases w3
  have oh := (ok.alloc hd (.dK [])).holdO (p := d) (o := .dK []) upd_same dK_ok.1 (fun n e => by rw [cg] at e; cases e) fd h0 no
  have kxh : ∀ {G : Hp}, Le F G → KX (Δ.hold d (.dK [])) am G XX := fun {G} lg x g F' H' h l fn => kx am x g F' H' h (lg.trans l) (fn.unhold h0 na)
  refine ⟨Δ.hold d (.dK []), rfl, am, F, c, _, XX, oh, hf, fun r1 c1 F1 v1 H1 p1 l1 o1 s1 => ?_, kxh (Le.refl F)⟩
  dsimp only at p1
  split at p1
  case h_2 => exact p1.elim
  rename_i lft
  have w1 := s1.1
  cases w1
  refine ⟨Δ.hold d (.dK []), rfl, am, F1, c1, _, XX, o1, p1.2, fun r2 c2 F2 v2 H2 p2 l2 o2 s2 => ?_, kxh l1⟩
  dsimp only at p2
  split at p2
  case h_2 => exact p2.elim
  rename_i sd
  have w2 := s2.1
  cases w2
  refine ⟨Δ.hold d (.dK []), rfl, am, F2, c2, _, XX, o2, p2.2.2, fun r3 c3 F3 v3 H3 p3 l3 o3 s3 => ?_, kxh (l1.trans l2)⟩
  obtain ⟨ac, vs, xs, F3', rfl, ⟨ns, rfl, hn, hl, p3⟩, l3', o3', ea, ra⟩ := asL_of o3 s3 p3
  have := ra.ints
  subst this
  refine ⟨Δ.hold d (.dK []), rfl, am, F3', c3, _, XX, o3', p3, fun r4 c4 F4 v4 H4 p4 l4 o4 s4 => ?_, kxh (((l1.trans l2).trans l3).trans l3')⟩
  dsimp only at p4
  split at p4
  case h_2 => exact p4.elim
  obtain ⟨rfl, cg4, p4⟩ := p4
  have w4 := s4.1
  cases w4
  obtain ⟨o5, hd5, fd5, no5⟩ := o4.unhold h0 f00 na
  refine ⟨hd5, genKV lft sd ac 0, rfl, (by show 4 ≤ 15; decide), ?_⟩
  rw [mg4]
  have ll : Le F F4 := ((((l1.trans l2).trans l3).trans l3').trans l4)
  refine kf.2.2.2 .gen (some 0) d F4 _ (.ref d) p4 ll ⟨fun b u e => ?_, o5.f0, o5.fr, o5.tb.upd (fun u e => by rw [hd5] at e; cases e; exact dK_ok), fun b u e n => ?_, fun b e => ?_, fun n e => ?_⟩ rfl
  · rw [upd_ne (fun z => by rw [z, fd5] at e; cases e)]
    exact o5.fh b u e
  · rw [upd_ne (ne_of_none e h0)]
    exact o5.pr b u e n
  · rw [a0] at e; cases e
  · cases e
    exact ⟨.inr ⟨a0, h0⟩, fd5, lft, sd, 0, ac, ns, upd_same, l4 _ _ ea, hn, hl, p1.1, p2.1, p2.2.1, by decide, by decide, by decide⟩
end
/-- name = f(..) where f makes the drawing state -/
def sSetG (i : Nat) (Pr : Cn) (fr : WA) : WS := fun c P X => fr c (fun rs c1 => Rv.gen ∉ rs ∧ i < c1.env.length ∧ (∀ j, j ≠ i → c1.env[j]? ≠ some (some .gen)) ∧ Pr rs none fun r g' => r = .gen ∧ ∃ n, g' = some n ∧ P (.nx (putE { c1 with g := some n } i .gen))) X
theorem ds_setG (i : Nat) {Pr : Cn} {fr : WA} {f : Str} {es : List Expr} {kk : Nat} (a0 : Δ.a0 = none) (C : CalD X.prog X.w X.K X.mg X.base kk f Pr) (hK : Δ.K = X.K) (hr : RoomG kk X.A) (hg : Gl X f) (hN : X.N.Nodup) (ha : PA X (e :: es) (tA Δ fr)) (hi : X.N[i]? = some x := by rfl) (hx : Loc X.env.scope x := by first | exact Or.inl rfl | exact Or.inr rfl)
    (hs : swapsWith (.Call (.Name f p2) (e :: es) [] p3) (some (.Name x p)) pos.line X.env = pure false := by rfl) (hf : X.fn x = true ∨ X.env.scope.names.lookup x = some .local := by first | exact .inl rfl | exact .inr rfl)
    (hdb : (f == ("__debug__" : Str)) = false := by decide) (he : starEach (e :: es) X.env = (false, eval e X.env) :: starEach es X.env := by rfl) (hpl : (backTo p3 (starEach es X.env)).any (·.1) = false := by rfl) :
    PS X (.Assign [.Name x p] (.Call (.Name f p2) (e :: es) [] p3) pos) (tS Δ (sSetG i Pr fr)) := by
  obtain ⟨fa, fd, ps, w1, w2, w3, w4⟩ := C.ex
  refine (ps_set hN hi hx (pe_callX w1 hr hg w2 w3 w4 pass0 ha hdb he hpl) hs hf).imp fun D σ H ⟨am, F, c, P, XX, ok, hf, kf, kx⟩ => ?_
  refine ⟨am, F, c, _, XX, ok, hf, fun rs c1 F1 vs H1 p1 l1 o1 s1 => ?_, kx am⟩
  obtain ⟨ng, hi1, hno, p1⟩ := p1
  show spD X.K Pr (vs ++ []) H1 _ E0
  rw [List.append_nil]
  refine ⟨am, F1, rs, none, _, o1.fh, o1.tbs hK, fun n z => (nomatch z), s1.to hK (fun _ => rfl), p1, fun r g' am' F' v H' pr l fn s => ?_⟩
  obtain ⟨rfl, n, rfl, pr⟩ := pr
  have ev : v = .ref am' := s
  subst ev
  obtain ⟨g1, g2, g3⟩ := fn.gn n rfl
  have hnew : unT H1 am' = none := by
    rcases g1 with z | z
    · cases z
    · exact z.2
  have prs : ∀ b o, H1 b = some o → (∀ ps, o ≠ .tbl ps) → H' b = some o := fun b o e nt => fn.pr b o (unT_to e nt) fun z => nomatch z
  refine kf.1 _ am' F' _ H' pr (l1.trans l) ?_
  have hT : (dx0 X.K am none F1 H1).T = Δ.T := (congrArg TabF.T hK).symm
  have new : ∀ b, unT H1 b = none → Δ.H0 b = none := fun b e => by
    rcases unT_none e with e | ⟨ps, e⟩
    · exact o1.new e
    · cases q : Δ.H0 b with
      | none => rfl
      | some o =>
        have h1 := o1.pr b o q (by rw [a0]; exact fun z => nomatch z)
        rw [e] at h1
        rw [← Option.some.inj h1] at q
        exact absurd q (o1.tb.2.2 b ps)
  have nf : ∀ b o, H1 b = some o → F1 b = none → (∀ ps, o ≠ .tbl ps) → F' b = none := fun b o e n nt => by
    cases q : F' b with
    | none => rfl
    | some u =>
      rcases fn.fr b (by rw [q]; exact fun z => nomatch z) with z | z
      · exact absurd n z
      · have z : unT H1 b = none := z
        rw [unT_to e nt] at z; cases z
  refine ⟨fn.fh, o1.f0.trans l, fun b e => (fn.fr b e).elim (fun z => o1.fr b z) fun z => .inr (new b z), ⟨hT ▸ fn.tb.1, fn.tb.2.1, o1.tb.2.2⟩, fun b o e n => prs b o (o1.pr b o e n) (fun ps z => o1.tb.2.2 b ps (z ▸ e)), fun b e => (by rw [a0] at e; cases e),
    fun n' e => ?_, ?_, fun j r e => ?_, fun j l xs ys n q1 q2 m1 m2 => ?_⟩
  · have e : some n = some n' := e
    cases e
    exact ⟨.inr ⟨a0, new _ hnew⟩, g2, g3⟩
  · show (σ.set i _).length = (c1.env.set i _).length
    rw [List.length_set, List.length_set, o1.len]
  · have e : (c1.env.set i (some .gen))[j]? = some (some r) := e
    rw [env_get] at e
    rw [St.set_get]
    split at e
    · rename_i q
      cases e
      refine ⟨.ref am', ?_, rfl⟩
      rw [if_pos ⟨q.1, by rw [o1.len]; exact q.2⟩]
    · rename_i q
      have hj : j ≠ i := fun z => q ⟨z, hi1⟩
      obtain ⟨w, h1, h2⟩ := o1.sv j r e
      refine ⟨w, ?_, ?_⟩
      · rw [if_neg (fun y => hj y.1)]
        exact h1
      · cases r with
        | d x => exact Rp.mono l h2
        | gen => exact absurd e (hno j hj)
        | scr ns =>
          obtain ⟨a, e1, e2⟩ := h2
          exact ⟨a, e1, sq_le l e2⟩
        | own xs =>
          obtain ⟨a, us, e1, e2, e3, e4, e5⟩ := h2
          exact ⟨a, us, e1, prs a _ e2 lst_ok.1, nf a _ e2 e3 lst_ok.1, e4, e5.mono l⟩
        | dic D =>
          obtain ⟨a, us, e1, e2, e3, e4, e5⟩ := h2
          exact ⟨a, us, e1, prs a _ e2 e5.ntbl, nf a _ e2 e3 e5.ntbl, e4, e5.mono l⟩
  · have q1 : (c1.env.set i (some .gen))[j]? = some (some xs) := q1
    have q2 : (c1.env.set i (some .gen))[l]? = some (some ys) := q2
    rw [env_get] at q1 q2
    rw [St.set_get, St.set_get]
    split at q1
    · cases q1
      exact m1.elim
    · rename_i z1
      split at q2
      · cases q2
        exact m2.elim
      · rename_i z2
        rw [if_neg (fun y => z1 ⟨y.1, hi1⟩), if_neg (fun y => z2 ⟨y.1, hi1⟩)]
        exact o1.di j l xs ys n q1 q2 m1 m2
end
end Dl
set_option Elab.async false
set_option maxRecDepth 100000
set_option linter.all false
set_option autoImplicit false
namespace Dl
open PySem L2
variable [TabF]
section
variable {X : Cx} {Δ : Dx}
def subD : OD := iD (fun i j => .int (i - j)) fun _ _ => True
def mulD : OD := iD (fun i j => .int (i * j)) CMul2
def fdivD : OD := iD (fun i j => .int (i.fdiv j)) CDiv2
def modD : OD := iD (fun i j => .int (i.fmod j)) fun _ j => j ≠ 0
def powD : OD := iD (fun i j => .int (i ^ j.toNat)) fun i j => 0 ≤ j ∧ (Builtin.Int.intBits i : Int) * j ≤ 2 ^ 27
def iaddD : OD := iD (fun i j => .int (i + j)) fun _ _ => True
theorem do_pow : OpD X Δ (binaryOp .Pow) powD :=
  op_iD (C' := fun i j => 0 ≤ j ∧ (Builtin.Int.intBits i : Int) * j ≤ 2 ^ 27) (opI fun _ _ _ _ _ _ _ hc q => PyProof.Rows.pow_int hc.1 hc.2 q) (fun _ _ h => h) fun _ _ _ _ => .int _
theorem do_sub' : OpD X Δ (binaryOp .Sub) subD := do_sub
theorem do_mul' : OpD X Δ (binaryOp .Mult) mulD := do_mul
theorem do_fdiv' : OpD X Δ (binaryOp .FloorDiv) fdivD := do_fdiv
theorem do_mod' : OpD X Δ (binaryOp .Mod) modD := do_mod
theorem di_add' : OpD X Δ (inplaceOp .Add) iaddD := di_add
def wYes : WT := fun c P _ => P true c
theorem dts_nil : PTs X [] (tT Δ wYes) := ⟨fun pins s σ H Q I ⟨am, F, c, P, XX, ok, hf, kq, kx⟩ => pts_nil.run pins s σ H Q I (kq true c F H hf (Le.refl F) ok)⟩
end
end Dl
set_option Elab.async false
set_option maxRecDepth 100000
set_option linter.all false
set_option autoImplicit false
namespace Dl
open PySem L2
variable [TabF]
/-! ### running a reading: equations -/
section
variable {k : Px → Prop} {a b d e f : Px} {l xs ys : List Px}
theorem ixt0 : ixD (.tuple (a :: l)) (.int 0) k = k a := by simp [ixD, atI, ixN]
theorem ixt1 : ixD (.tuple (a :: b :: l)) (.int 1) k = k b := by
  simp only [ixD, atI, ixN, List.length_cons]
  rw [if_pos (by omega), if_pos (by omega)]; rfl
theorem ixt2 : ixD (.tuple (a :: b :: d :: l)) (.int 2) k = k d := by
  simp only [ixD, atI, ixN, List.length_cons]
  rw [if_pos (by omega), if_pos (by omega)]; rfl
theorem ixt3 : ixD (.tuple (a :: b :: d :: e :: l)) (.int 3) k = k e := by
  simp only [ixD, atI, ixN, List.length_cons]
  rw [if_pos (by omega), if_pos (by omega)]; rfl
theorem ixl0 : ixD (.list (a :: l)) (.int 0) k = k a := by simp [ixD, atI, ixN]
theorem ixl1 : ixD (.list (a :: b :: l)) (.int 1) k = k b := by
  simp only [ixD, atI, ixN, List.length_cons]
  rw [if_pos (by omega), if_pos (by omega)]; rfl
theorem ixtn {i : Nat} (h : xs[i]? = some a) : ixD (.tuple xs) (.int (i : Int)) k = k a := by simp only [ixD, atI_nat h]
theorem ixln {i : Nat} (h : xs[i]? = some a) : ixD (.list xs) (.int (i : Int)) k = k a := by simp only [ixD, atI_nat h]
theorem ixtl : ixD (.tuple (xs ++ [a])) (.int (-1)) k = k a := by simp only [ixD, atI_last]
theorem ixll : ixD (.list (xs ++ [a])) (.int (-1)) k = k a := by simp only [ixD, atI_last]
end
theorem asD_d {x : Px} {k : Px → Prop} : asD (.d x) k = k x := rfl
theorem asD_own {x : List Px} {k : Px → Prop} : asD (.own x) k = k (.list x) := rfl
theorem argR_d {x : Px} {k : Rv → Prop} : argR (.d x) k = k (.d x) := rfl
theorem argR_own {x : List Px} {k : Rv → Prop} : argR (.own x) k = k (.d (.list x)) := rfl
theorem argR_gen {k : Rv → Prop} : argR .gen k = k .gen := rfl
theorem argR_scr {ns : List Int} {k : Rv → Prop} : argR (.scr ns) k = k (.scr ns) := rfl
theorem asL_own {x : List Px} {k : List Px → Prop} : asL (.own x) k = k x := rfl
theorem asL_d {x : List Px} {k : List Px → Prop} : asL (.d (.list x)) k = k x := rfl
theorem asT_d {x : List Px} {k : List Px → Prop} : asT (.d (.tuple x)) k = k x := rfl
theorem asB_d {b : Bool} {k : Bool → Prop} : asB (.d (.bool b)) k = k b := rfl
theorem sub_i {i j : Int} {P : Rv → Prop} : subD (.int i) (.int j) P = (True ∧ P (.d (.int (i - j)))) := rfl
theorem iadd_i {i j : Int} {P : Rv → Prop} : iaddD (.int i) (.int j) P = (True ∧ P (.d (.int (i + j)))) := rfl
theorem mul_i {i j : Int} {P : Rv → Prop} : mulD (.int i) (.int j) P = (CMul2 i j ∧ P (.d (.int (i * j)))) := rfl
theorem fdiv_i {i j : Int} {P : Rv → Prop} : fdivD (.int i) (.int j) P = (CDiv2 i j ∧ P (.d (.int (i.fdiv j)))) := rfl
theorem mod_i {i j : Int} {P : Rv → Prop} : modD (.int i) (.int j) P = (j ≠ 0 ∧ P (.d (.int (i.fmod j)))) := rfl
theorem pow_i {i j : Int} {P : Rv → Prop} : powD (.int i) (.int j) P = ((0 ≤ j ∧ (Builtin.Int.intBits i : Int) * j ≤ 2 ^ 27) ∧ P (.d (.int (i ^ j.toNat)))) := rfl
theorem lt_i {i j : Int} {P : Rv → Prop} : ltD (.int i) (.int j) P = (True ∧ P (.d (.bool (decide (i < j))))) := rfl
theorem le_i {i j : Int} {P : Rv → Prop} : leD (.int i) (.int j) P = (True ∧ P (.d (.bool (decide (i ≤ j))))) := rfl
theorem gt_i {i j : Int} {P : Rv → Prop} : gtD (.int i) (.int j) P = (True ∧ P (.d (.bool (decide (j < i))))) := rfl
theorem ge_i {i j : Int} {P : Rv → Prop} : geD (.int i) (.int j) P = (True ∧ P (.d (.bool (decide (j ≤ i))))) := rfl
theorem add_i {i j : Int} {P : Rv → Prop} : addD (.int i) (.int j) P = P (.d (.int (i + j))) := rfl
theorem add_l {x y : List Px} {P : Rv → Prop} : addD (.list x) (.list y) P = (x.length + y.length ≤ 1000000 ∧ P (.own (x ++ y))) := rfl
theorem add_t {x y : List Px} {P : Rv → Prop} : addD (.tuple x) (.tuple y) P = (x.length + y.length ≤ 1000000 ∧ P (.d (.tuple (x ++ y)))) := rfl
theorem cat_i {i j : Int} {P : Rv → Prop} : catD (.int i) (.int j) P = P (.d (.int (i + j))) := rfl
theorem cat_l {x y : List Px} {P : Rv → Prop} : catD (.list x) (.list y) P = (x.length + y.length ≤ 1000000 ∧ P (.own (x ++ y))) := rfl
theorem cat_t {x y : List Px} {P : Rv → Prop} : catD (.tuple x) (.tuple y) P = (x.length + y.length ≤ 1000000 ∧ P (.d (.tuple (x ++ y)))) := rfl
theorem neg_i {i : Int} {P : Rv → Prop} : negD (.int i) P = P (.d (.int (-i))) := rfl
theorem sh_int {i : Int} : SeqAt.shaped (.int i) = true := by simp [SeqAt.shaped, PyData.canLay0, PyData.depth]
theorem eqf_i {i j : Int} {P : Rv → Prop} : eqD false (.int i) (.int j) P = (True ∧ True ∧ P (.d (.bool (i == j)))) := by simp only [eqD, sh_int]; rfl
theorem eqt_i {i j : Int} {P : Rv → Prop} : eqD true (.int i) (.int j) P = (True ∧ True ∧ P (.d (.bool (!(i == j))))) := by simp only [eqD, sh_int]; rfl
theorem lenC_l {x : List Px} {P : Rv → Prop} : lenC [.d (.list x)] P = P (.d (.int x.length)) := rfl
theorem lenC_t {x : List Px} {P : Rv → Prop} : lenC [.d (.tuple x)] P = P (.d (.int x.length)) := rfl
theorem absC_i {i : Int} {P : Rv → Prop} : absC [.d (.int i)] P = P (.d (.int i.natAbs)) := rfl
theorem intC_i {i : Int} {P : Rv → Prop} : intC [.d (.int i)] P = P (.d (.int i)) := rfl
theorem tupC_l {x : List Px} {P : Rv → Prop} : tupC [.d (.list x)] P = P (.d (.tuple x)) := rfl
theorem tupC_t {x : List Px} {P : Rv → Prop} : tupC [.d (.tuple x)] P = P (.d (.tuple x)) := rfl
theorem max2C_i {i j : Int} {P : Rv → Prop} : max2C [.d (.int i), .d (.int j)] P = P (.d (.int (if i < j then j else i))) := rfl
theorem max3C_i {i j l : Int} {P : Rv → Prop} : max3C [.d (.int i), .d (.int j), .d (.int l)] P = P (.d (.int (max2 (max2 i j) l))) := rfl
theorem gT_d {n : Nat} {gs : WGs} {xs : List Px} {c : Cf} {P : Cf → Prop} : gT n gs (.d (.tuple xs)) c P = (xs.length = n ∧ gs xs c P) := rfl
theorem gsC {g : WG} {gs : WGs} {x : Px} {r : List Px} {c : Cf} {P : Cf → Prop} : gsCons g gs (x :: r) c P = g (.d x) c fun c1 => gs r c1 P := rfl
theorem gsN {c : Cf} {P : Cf → Prop} : gsNil [] c P = P c := rfl
/-- plain data, not deep -/
def Shp (n : Nat) (x : Px) : Prop := x.canLay0 = true ∧ x.depth ≤ n
theorem Shp.sh {n : Nat} {x : Px} (h : Shp n x) (hn : n ≤ 64 := by decide) : SeqAt.shaped x = true := by
  simp only [SeqAt.shaped, h.1, Bool.true_and, decide_eq_true_eq]
  exact Nat.le_trans h.2 hn
theorem Shp.int {n : Nat} (i : Int) : Shp n (.int i) := ⟨by simp [PyData.canLay0], by simp [PyData.depth]⟩
theorem Shp.all {n : Nat} : ∀ {xs : List Px}, (∀ x ∈ xs, Shp n x) → PyData.canLayAll0 xs = true ∧ PyData.depthAll xs ≤ n
  | [], _ => ⟨by simp [PyData.canLayAll0], by simp [PyData.depthAll]⟩
  | x :: xs, h => by
    have h1 := h x List.mem_cons_self
    have h2 := Shp.all fun y hy => h y (List.mem_cons_of_mem _ hy)
    refine ⟨by simp only [PyData.canLayAll0, h1.1, h2.1, Bool.and_self], ?_⟩
    simp only [PyData.depthAll]
    exact Nat.max_le.mpr ⟨h1.2, h2.2⟩
theorem Shp.tup {n : Nat} {xs : List Px} (h : ∀ x ∈ xs, Shp n x) : Shp (n + 1) (.tuple xs) := by
  have := Shp.all h
  exact ⟨by simp only [PyData.canLay0]; exact this.1, by simp only [PyData.depth]; omega⟩
theorem Shp.lst {n : Nat} {xs : List Px} (h : ∀ x ∈ xs, Shp n x) : Shp (n + 1) (.list xs) := by
  have := Shp.all h
  exact ⟨by simp only [PyData.canLay0]; exact this.1, by simp only [PyData.depth]; omega⟩
theorem Shp.ints (ns : List Int) : Shp 1 (.tuple (ns.map .int)) := .tup fun x hx => by
  obtain ⟨i, _, rfl⟩ := List.mem_map.mp hx
  exact .int i
theorem eqv_nil {xs : List Px} : PyData.eqv (.list xs) (.list []) = xs.isEmpty := by cases xs <;> simp [PyData.eqv, PyData.eqvAll]
/-! the readings of names, stuck where the slot isn't known -/
def slotE (o : Option (Option Rv)) (i : Nat) (c : Cf) (P : Rv → Cf → Prop) : Prop := match o with
  | some (some (.d x)) => P (.d x) c
  | some (some .gen) => P .gen c
  | some (some (.scr ns)) => P (.scr ns) c
  | some (some (.own xs)) => P (.d (.list xs)) { c with env := c.env.set i (some (.d (.list xs))) }
  | _ => False
theorem eName_eq {i : Nat} {c : Cf} {P : Rv → Cf → Prop} {X : XP} : eName i c P X = slotE c.env[i]? i c P := rfl
theorem slotE_d {x : Px} {i : Nat} {c : Cf} {P : Rv → Cf → Prop} : slotE (some (some (.d x))) i c P = P (.d x) c := rfl
theorem slotE_gen {i : Nat} {c : Cf} {P : Rv → Cf → Prop} : slotE (some (some .gen)) i c P = P .gen c := rfl
theorem slotE_scr {ns : List Int} {i : Nat} {c : Cf} {P : Rv → Cf → Prop} : slotE (some (some (.scr ns))) i c P = P (.scr ns) c := rfl
theorem slotE_own {xs : List Px} {i : Nat} {c : Cf} {P : Rv → Cf → Prop} : slotE (some (some (.own xs))) i c P = P (.d (.list xs)) { c with env := c.env.set i (some (.d (.list xs))) } := rfl
def slotK (o : Option (Option Rv)) (k : Px → Prop) : Prop := match o with
  | some (some (.d x)) => k x
  | some (some (.own xs)) => k (.list xs)
  | _ => False
theorem slotD_eq {c : Cf} {i : Nat} {k : Px → Prop} : slotD c i k = slotK c.env[i]? k := rfl
theorem slotK_d {x : Px} {k : Px → Prop} : slotK (some (some (.d x))) k = k x := rfl
theorem slotK_own {xs : List Px} {k : Px → Prop} : slotK (some (some (.own xs))) k = k (.list xs) := rfl
def slotO (o : Option (Option Rv)) (k : List Px → Prop) : Prop := match o with
  | some (some (.own xs)) => k xs
  | _ => False
theorem ownD_eq {c : Cf} {i : Nat} {k : List Px → Prop} : ownD c i k = slotO c.env[i]? k := rfl
theorem slotO_own {xs : List Px} {k : List Px → Prop} : slotO (some (some (.own xs))) k = k xs := rfl
theorem wB_eq {f : WE} {c : Cf} {P : Bool → Cf → Prop} {X : XP} : wB f c P X = f c (fun r c1 => asB r fun b => P b c1) X := rfl
def asI (r : Rv) (k : Int → Prop) : Prop := match r with
  | .d (.int i) => k i
  | _ => False
theorem asI_i {i : Int} {k : Int → Prop} : asI (.d (.int i)) k = k i := rfl
theorem oSome_eq {f : WE} {c : Cf} {P : Option Int → Cf → Prop} {X : XP} : oSome f c P X = f c (fun r c1 => asI r fun i => P (some i) c1) X := rfl
theorem sSetI_eq {i : Nat} {fe fi : WE} {c : Cf} {P : Fl → Prop} {X : XP} : sSetI i fe fi c P X = (isOwn c i ∧ fe c (fun r c1 => asD r fun y => isOwn c1 i ∧ fi c1 (fun r2 c2 => asI r2 fun k => ownD c2 i fun xs => ∃ j, ixN xs.length k = some j ∧ P (.nx (putE c2 i (.own (xs.set j y))))) X) X) := by
  unfold sSetI
  congr 2
  funext r c1
  congr 1
  funext y
  congr 2
  funext r2 c2
  cases r2 with
  | d x =>
    cases x with
    | int k =>
      show (ownD c2 i fun xs => _) = asI (.d (.int k)) _
      rw [asI_i]
      congr 1
      funext xs
      cases ixN xs.length k <;> simp
    | _ => rfl
  | _ => rfl
def slotA (o : Option (Option Rv)) (k : Px → Prop) : Prop := match o with
  | some (some (.d x)) => k x
  | _ => False
theorem slotA_d {x : Px} {k : Px → Prop} : slotA (some (some (.d x))) k = k x := rfl
theorem sAug_eq {i : Nat} {o : OD} {fb : WE} {c : Cf} {P : Fl → Prop} {X : XP} : sAug i o fb c P X = (hasD c i ∧ fb c (fun r c1 => asD r fun y => slotA c1.env[i]? fun x => o x y fun rr => P (.nx (putE c1 i rr))) X) := rfl
end Dl
set_option Elab.async false
set_option maxRecDepth 100000
set_option linter.all false
set_option autoImplicit false
namespace Dl
open PySem L2
variable [TabF]
/-! ### loops and comprehensions by induction -/
section
variable {g : WG} {t : WT} {f : WE} {vs : List Nat} {env : List (Option Rv)} {X : XP} {P : Rv → Cf → Prop}
/-- one turn of a comprehension -/
def Turn1 (g : WG) (t : WT) (f : WE) (vs : List Nat) (env : List (Option Rv)) (X : XP) (x : Px) (gs : Option Nat) (R : Px → Option Nat → Prop) (S : Option Nat → Prop) : Prop :=
  g (.d x) ⟨wipeE env vs, gs⟩ fun c1 => wipeE c1.env vs = wipeE env vs ∧ t c1 (fun b c2 => c2.env = c1.env ∧ if b = true then f c2 (fun r c3 => c3.env = c1.env ∧ asD r fun y => R y c3.g) X else S c2.g) X
end
theorem forW_ind {g : WG} {f : WS} {X : XP} {P : Fl → Prop} (xs : List Px) (I : Nat → Cf → Prop) (hs : ∀ (i : Nat) (x : Px) (c : Cf), xs[i]? = some x → I i c → ∀ R : Cf → Prop, (∀ c', I (i + 1) c' → R c') →
      g (.d x) c fun c1 => f c1 (fun fl => match fl with
        | .nx c2 => R c2
        | .ct c2 => R c2
        | .bk c2 => P (.nx c2)
        | .rt r gs => P (.rt r gs)) X) (hd : ∀ c, I xs.length c → P (.nx c)) : ∀ c, I 0 c → forW g f X P xs c := by
  have key : ∀ (ys : List Px) (i : Nat) (c : Cf), (∀ j x, ys[j]? = some x → xs[i + j]? = some x) → i + ys.length = xs.length → I i c → forW g f X P ys c := by
    intro ys
    induction ys with
    | nil =>
      intro i c _ hl hI
      simp only [List.length_nil, Nat.add_zero] at hl
      subst hl
      exact hd c hI
    | cons y ys ih =>
      intro i c hg hl hI
      refine hs i y c (by simpa using hg 0 y rfl) hI (fun c' => forW g f X P ys c') fun c' hI' => ih (i + 1) c' (fun j x hx => ?_) (by simp only [List.length_cons] at hl; omega) hI'
      have := hg (j + 1) x (by simpa using hx)
      rw [show i + 1 + j = i + (j + 1) by omega]
      exact this
  intro c hI
  exact key xs 0 c (fun j x h => by simpa using h) (by simp) hI
theorem rng_at {lo : Int} {n i : Nat} {x : Px} (h : (rngX lo n)[i]? = some x) : i < n ∧ x = .int (lo + i) := by
  have hi : i < n := by
    have := (List.getElem?_eq_some_iff.mp h).1
    rwa [rngX_length] at this
  rw [rngX_get n lo i hi] at h
  exact ⟨hi, (Option.some.inj h).symm⟩
theorem map_at {α : Type} {f : α → Px} {l : List α} {i : Nat} {x : Px} (h : (l.map f)[i]? = some x) : ∃ a, l[i]? = some a ∧ x = f a := by
  rw [List.getElem?_map] at h
  cases e : l[i]? with
  | none => rw [e] at h; cases h
  | some a => rw [e] at h; exact ⟨a, rfl, (Option.some.inj h).symm⟩
theorem map_of {α : Type} (f : α → Px) {l : List α} {i : Nat} {a : α} (h : l[i]? = some a) : (l.map f)[i]? = some (f a) := by
  rw [List.getElem?_map, h]; rfl
/-- an item at an int that is in bounds -/
theorem int_ix {n : Nat} {j : Int} (h0 : 0 ≤ j) (h1 : j < n) : ∃ i : Nat, j = (i : Int) ∧ i < n := ⟨j.toNat, by omega, by omega⟩
theorem ixl_of {xs : List Px} {j : Int} {k : Px → Prop} (h0 : 0 ≤ j) (h1 : j < xs.length) (h : ∀ x ∈ xs, k x) : ixD (.list xs) (.int j) k := by
  obtain ⟨i, rfl, hi⟩ := int_ix h0 h1
  rw [ixln (a := xs[i]) (by simp [hi])]
  exact h _ (List.getElem_mem hi)
theorem fmod_b {i b : Int} (hb : 0 < b) : 0 ≤ i.fmod b ∧ i.fmod b < b := by
  rw [Int.fmod_eq_emod_of_nonneg i (by omega)]
  exact ⟨Int.emod_nonneg _ (by omega), Int.emod_lt_of_pos _ hb⟩
theorem fdiv_nn {i b : Int} (hi : 0 ≤ i) (hb : 0 < b) : 0 ≤ i.fdiv b := by
  rw [Int.fdiv_eq_ediv_of_nonneg i (by omega)]
  exact Int.ediv_nonneg hi (by omega)
theorem CMul2.l {i j : Int} (h1 : -1000000000000000000 < i) (h2 : i < 1000000000000000000) : CMul2 i j := .inl ⟨by omega, by omega⟩
theorem CMul2.r {i j : Int} (h1 : -1000000000000000000 < j) (h2 : j < 1000000000000000000) : CMul2 i j := .inr (.inl ⟨by omega, by omega⟩)
theorem CDiv2.s {i j : Int} (h : j ≠ 0) (h1 : -1000000000 < j) (h2 : j < 1000000000) : CDiv2 i j := .inl ⟨h, by omega⟩
theorem CDiv2.g {i j : Int} (h : 0 < j) {b : Nat} (h1 : j.natAbs < 2 ^ b) (h2 : b ≤ 9000 := by decide) (h3 : 0 < b := by decide) : CDiv2 i j := .inr ⟨h, b, h1, h3, h2⟩
end Dl
set_option Elab.async false
set_option maxRecDepth 100000
set_option linter.all false
set_option autoImplicit false
namespace Dl
open PySem L2
variable [TabF]
section
variable {X : Cx} {Δ : Dx} {pos : Pos} {es : List Expr}
/-- a, b, .. = a list of that length -/
def gL (n : Nat) (gs : WGs) : WG := fun r c P => asL r fun xs => xs.length = n ∧ gs xs c P
theorem dg_lst {k : Nat} {gs : WGs} {n : Nat} {us : List Nat} (hc : X.calm = true) (h : PGs X es (tGs Δ us gs)) (hn : (assignEach es X.env).length = n := by rfl) (hst : (assignEach es X.env).findIdx? (·.1) = none := by rfl) : PG X (.Tuple es k pos) (tG Δ us (gL n gs)) :=
  (pg_lst hc h hn hst).imp fun v σ H Q ⟨am, F, c, r, P, ok, s, h, kq⟩ => by
    obtain ⟨a, vs, xs, F', e1, hx, l, o', e2, r1⟩ := asL_of ok s h
    exact ⟨a, vs, e1, SqL.of (o'.fh _ _ e2), by rw [r1.length]; exact hx.1, am, F', c, xs, P, o', r1, hx.2, fun c' F2 σ' H' p l2 o t => kq c' F2 σ' H' p (l.trans l2) o t⟩
end
theorem gL_own {n : Nat} {gs : WGs} {xs : List Px} {c : Cf} {P : Cf → Prop} : gL n gs (.own xs) c P = (xs.length = n ∧ gs xs c P) := rfl
theorem gL_d {n : Nat} {gs : WGs} {xs : List Px} {c : Cf} {P : Cf → Prop} : gL n gs (.d (.list xs)) c P = (xs.length = n ∧ gs xs c P) := rfl
end Dl
set_option Elab.async false
set_option maxRecDepth 100000
set_option linter.all false
set_option autoImplicit false
namespace Dl
open PySem L2
variable [TabF]
section
variable {g : WG} {t : WT} {f : WE} {vs : List Nat} {env : List (Option Rv)} {X : XP} {P : Rv → Cf → Prop}
theorem lcW_fma {α : Type} (e : α → Px) (h : α → Option Px) {gs : Option Nat} : ∀ (l : List α) (acc : List Px), (∀ x ∈ l, ∀ (R : Px → Option Nat → Prop) (S : Option Nat → Prop), (∀ y, h x = some y → R y gs) → (h x = none → S gs) → Turn1 g t f vs env X (e x) gs R S) →
    acc.length + l.length ≤ 1000000 → P (.own (acc ++ l.filterMap h)) ⟨env, gs⟩ → lcW g t f vs env X P (l.map e) acc gs
  | [], acc, _, _, q => by
    simp only [List.filterMap_nil, List.append_nil] at q
    exact q
  | x :: xs, acc, ht, hl, q => by
    simp only [List.length_cons] at hl
    refine ht x List.mem_cons_self (fun y g' => acc.length < 1000000 ∧ lcW g t f vs env X P (xs.map e) (acc ++ [y]) g') (fun g' => lcW g t f vs env X P (xs.map e) acc g') (fun y hy => ⟨by omega, ?_⟩) fun hy => ?_
    · refine lcW_fma e h xs (acc ++ [y]) (fun z hz => ht z (List.mem_cons_of_mem _ hz)) (by simp only [List.length_append, List.length_cons, List.length_nil]; omega) ?_
      rw [List.filterMap_cons_some hy] at q
      rw [List.append_assoc]
      exact q
    · refine lcW_fma e h xs acc (fun z hz => ht z (List.mem_cons_of_mem _ hz)) (by omega) ?_
      rw [List.filterMap_cons_none hy] at q
      exact q
/-- a comprehension that keeps every item -/
theorem lcW_mpa {α : Type} (e h : α → Px) {gs : Option Nat} (l : List α) (ht : ∀ x ∈ l, ∀ (R : Px → Option Nat → Prop) (S : Option Nat → Prop), R (h x) gs → Turn1 g t f vs env X (e x) gs R S)
    (hl : l.length ≤ 1000000) (q : P (.own (l.map h)) ⟨env, gs⟩) : lcW g t f vs env X P (l.map e) [] gs := by
  refine lcW_fma e (fun x => some (h x)) l [] (fun x hx R S hR _ => ht x hx R S (hR _ rfl)) (by simpa using hl) ?_
  rw [List.nil_append, show l.filterMap (fun x => some (h x)) = l.map h by simp [List.filterMap_eq_map']]
  exact q
end
theorem rngX_map (lo : Int) (n : Nat) : rngX lo n = (List.range n).map fun i : Nat => PyData.int (lo + i) := by
  apply List.ext_getElem?
  intro i
  by_cases h : i < n
  · rw [rngX_get n lo i h]
    simp [h]
  · rw [List.getElem?_eq_none (by rw [rngX_length]; omega), List.getElem?_eq_none (by simp; omega)]
theorem cut_hd {α : Type} (xs : List α) {i : Nat} (h : i ≤ xs.length) : cutX xs none (some (i : Int)) = xs.take i := by
  unfold cutX
  rw [HT.sIx_none, HT.sIx_nat, Nat.min_eq_left h]
  simp
theorem cut_tl {α : Type} (xs : List α) {i : Nat} (h : i ≤ xs.length) : cutX xs (some (i : Int)) none = xs.drop i := by
  unfold cutX
  rw [HT.sIx_none, HT.sIx_nat, Nat.min_eq_left h]
  rw [List.take_of_length_le (by simp)]
theorem cut_last {α : Type} (xs : List α) (a : α) : cutX (xs ++ [a]) none (some (-1)) = xs := by
  unfold cutX
  have e : HT.sIx (xs ++ [a]).length (xs ++ [a]).length (some (-1)) = xs.length := by
    unfold HT.sIx
    simp only [List.length_append, List.length_cons, List.length_nil]
    rw [if_pos (by decide)]
    omega
  rw [HT.sIx_none, e]
  simp
theorem eqt_nil {xs : List Px} {P : Rv → Prop} (h : ∀ x ∈ xs, Shp 60 x) : eqD true (.list xs) (.list []) P = P (.d (.bool (!xs.isEmpty))) := by
  have h1 : SeqAt.shaped (.list xs) = true := (Shp.lst h).sh
  have h2 : SeqAt.shaped (.list []) = true := (Shp.lst (n := 60) (xs := []) (by simp)).sh
  simp only [eqD, h1, h2, eqv_nil, true_and, if_true]
theorem slD_l {xs : List Px} {lo hi : Option Int} {k : Rv → Prop} : slD (.list xs) lo hi k = k (.own (cutX xs lo hi)) := rfl
/-! ### powers of constants -/
theorem powc {i j v : Int} (h1 : 0 ≤ j) (h2 : (Builtin.Int.intBits i : Int) * j ≤ 2 ^ 27) (h3 : i ^ j.toNat = v) : eOp powD (eC (.int i)) (eC (.int j)) = eC (.int v) := by
  funext c P X
  show ((0 ≤ j ∧ (Builtin.Int.intBits i : Int) * j ≤ 2 ^ 27) ∧ P (.d (.int (i ^ j.toNat))) c) = P (.d (.int v)) c
  rw [h3]
  exact propext ⟨fun h => h.2, fun h => ⟨⟨h1, h2⟩, h⟩⟩
theorem b10 : Builtin.Int.intBits 10 = 4 := by decide
theorem pow18 : eOp powD (eC (.int 10)) (eC (.int 18)) = eC (.int 1000000000000000000) := powc (by decide) (by rw [b10]; decide) (by decide)
/-! ### what comes behind a call, a loop, a comprehension: held back till its turn -/
inductive Tag {α : Type} (a : α) : Type
  | mk
abbrev Hold (C : Cn) (rs : List Rv) (g : Option Nat) (Q : Rv → Option Nat → Prop) (_ : Tag Q) : Prop := C rs g Q
theorem eCallP_eq {Pr : Cn} {f : WA} {c : Cf} {P : Rv → Cf → Prop} {X : XP} : eCallP Pr f c P X = f c (fun rs c1 => Rv.gen ∉ rs ∧ Hold Pr rs none (fun r _ => r ≠ .gen ∧ P r c1) .mk) X := rfl
theorem eCallG_eq {Pr : Cn} {f : WA} {c : Cf} {P : Rv → Cf → Prop} {X : XP} : eCallG Pr f c P X = f c (fun rs c1 => c1.g.isSome = true ∧ Hold Pr rs c1.g (fun r g' => r ≠ .gen ∧ P r { c1 with g := g' }) .mk) X := rfl
theorem sSetG_eq {i : Nat} {Pr : Cn} {fr : WA} {c : Cf} {P : Fl → Prop} {X : XP} : sSetG i Pr fr c P X = fr c (fun rs c1 => Rv.gen ∉ rs ∧ i < c1.env.length ∧ (∀ j, j ≠ i → c1.env[j]? ≠ some (some .gen)) ∧ Hold Pr rs none (fun r g' => r = .gen ∧ ∃ n, g' = some n ∧ P (.nx (putE { c1 with g := some n } i .gen))) .mk) X := rfl
abbrev forH (g : WG) (f : WS) (X : XP) (P : Fl → Prop) (_ : Tag P) (xs : List Px) (c : Cf) : Prop := forW g f X P xs c
theorem sFor_eq {it : WI} {g : WG} {f : WS} {c : Cf} {P : Fl → Prop} {X : XP} : sFor it g f c P X = it c (fun xs c1 => forH g f X P .mk xs c1) X := rfl
abbrev lcH (g : WG) (t : WT) (f : WE) (vs : List Nat) (env : List (Option Rv)) (X : XP) (P : Rv → Cf → Prop) (_ : Tag P) (xs acc : List Px) (gs : Option Nat) : Prop := lcW g t f vs env X P xs acc gs
theorem eLc_eq {it : WI} {g : WG} {t : WT} {f : WE} {vs : List Nat} {c : Cf} {P : Rv → Cf → Prop} {X : XP} : eLc it g t f vs c P X = it c (fun xs c1 => nown c1.env vs ∧ lcH g t f vs c1.env X P .mk xs [] c1.g) X := rfl
end Dl
set_option Elab.async false
set_option maxRecDepth 100000
set_option linter.all false
set_option autoImplicit false
namespace Dl
open PySem PySem.Spec PyProof.Rows L2
variable [TabF]
section
variable {X : Cx} {Δ : Dx}
theorem cr_repr_bool : CallR X (.builtin "repr") (fun xs H Q => ∃ b, xs = [.bl b] ∧ Q (.str (if b then "True" else "False")) H) := by
  intro pins s σ H xs us Q I r h
  obtain ⟨i, rfl, q⟩ := h
  obtain ⟨u, rfl, e⟩ := vals1 r
  cases e
  exact PySem.P.repr_of_bool ⟨.str _, H, I.tok _, ⟨_, rfl⟩, q⟩
def reprC : CD := fun rs P => match rs with
  | [.d (.bool b)] => P (.d (.str (if b then "True" else "False")))
  | [.d (.int i)] => i.natAbs.log2 < 1920 ∧ P (.d (.str (toString i)))
  | _ => False
end
end Dl
set_option Elab.async false
set_option maxRecDepth 100000
set_option linter.all false
set_option autoImplicit false
/-! enumerate over a tuple, with one argument -/
namespace Dl
open PySem L2 PySem.Spec PyProof.Rows
variable [TabF]
abbrev enO (a : Addr) : Obj := { cls := .type "enumerate", data := .fields #[.none, .bool false, .ref a, rawInt 0, .none, .none] }
abbrev ttO (t : Addr) : Obj := { cls := .type "tuple_iterator", data := .fields #[.ref t, .int 0 0] }
set_option maxHeartbeats 1000000 in
theorem meets_enT {v : Value} {o : Obj} {G : Heap → Prop} (B : Begins v o G) : Meets (Builtin.«enumerate.__new__» ⟨[.type "enumerate", v], []⟩) (fun _ R s => G s.heap ∧ R (.ok (.ret (.ref (s.heap.push o).objs.size))) { s with heap := (s.heap.push o).push (enO s.heap.objs.size) }) :=
  .of_wp fun prog w A R s ⟨h1, h⟩ => by
    have su := sub_enumerate
    obtain ⟨hp, gg, dd, tk, os⟩ := s
    have q : ∀ {A' : Around} {E : Value → Shared → Prop} {Q : Value → Shared → Prop}, Q (.ref hp.objs.size) ⟨hp.push o, gg, dd, tk, os⟩ → wpAny (model prog w) A' (pyIter v) Q E ⟨hp, gg, dd, tk, os⟩ := fun z => B.iter prog w _ _ ⟨hp, gg, dd, tk, os⟩ _ h1 z
    wp_walk using q
    refine wpAny_stack_any fun fr => wpAny_pure ?_
    split
    · rename_i cc _ _ _ _ _
      cases (cc == Value.type "enumerate") <;> (wp_walk using q; exact ⟨_, rfl, h⟩)
    · wp_walk using q; exact ⟨_, rfl, h⟩
theorem call_enT {prog : Program} {w : World} {A : Around} {E : Value → Shared → Prop} {s : Shared} {t : Addr} {its : Array Value} {Q : Value → Shared → Prop} (hT : s.heap.IsTuple t its)
    (h : ∀ h', IsEnum h' (s.heap.objs.size + 1) s.heap.objs.size 0 .none → h'.IsTupleIter s.heap.objs.size t 0 → (∀ b o, s.heap.get? b = some o → h'.get? b = some o) → Q (.ref (s.heap.objs.size + 1)) { s with heap := h' }) :
    wpAny (model prog w) A (call (.type "enumerate") [.ref t]) Q E s := by
  refine callType_new F.called_enumerate (by decide) (F.typeCall_enumerate_1 _) (F.newCall_enumerate_1 _) (fun x => F.args_object_init_2 x _) F.entry_enumerate_new (meets_enT (begins_tuple t its)) ⟨hT, ?_⟩
  have hz : (s.heap.push (ttO t)).objs.size = s.heap.objs.size + 1 := Heap.size_push ..
  have he : IsEnum ((s.heap.push (ttO t)).push (enO s.heap.objs.size)) (s.heap.objs.size + 1) s.heap.objs.size 0 .none := by
    have z := Heap.get?_push_size (s.heap.push (ttO t)) (o := enO s.heap.objs.size) rfl
    rw [hz] at z
    exact z
  show _ ∧ _
  rw [hz]
  exact ⟨⟨_, he, rfl⟩, h _ he ⟨_, Heap.get?_push_of_some _ (Heap.get?_push_size _ rfl), rfl, rfl⟩ fun b o x => Heap.get?_push_of_some _ (Heap.get?_push_of_some _ x)⟩
/-- the tuple at a: each item with its number in a new pair -/
def Iet (K : PySem.W.Frag) (a : Addr) : It :=
  ⟨fun i H => ∃ (xs : List V) (x : V), SqT K H a xs ∧ xs[i]? = some x,
   fun i H v H' => ∃ T x, v = .ref T ∧ H T = none ∧ H' = upd H T (.tup [.int (i : Nat), x]) ∧ ∀ xs, SqT K H a xs → xs[i]? = some x,
   fun i H => ∃ xs : List V, SqT K H a xs ∧ xs.length ≤ i⟩
theorem turn_enT {P : Program} {w : World} {K : PySem.W.Frag} {elts : List Expr} {kk : Nat} {tpos : Pos} (a e it : Addr) (hk : K = TabF.K := by first | rfl | assumption) :
    Turn P w K (.Tuple elts kk tpos) (Iet K a) [e, it] e (fun i h => (∃ old, IsEnum h e it ((i : Nat) : Int) old) ∧ h.IsTupleIter it a i ∧ e ≠ it) where
  mem := by simp
  obj := fun i h st b hb => by
    obtain ⟨⟨u, he⟩, ⟨o, ho, _, hd⟩, _⟩ := st
    rcases (by simpa using hb : b = e ∨ b = it) with rfl | rfl
    · exact ⟨_, he, fun v q => nomatch q⟩
    · exact ⟨o, ho, fun v q => by rw [hd] at q; cases q⟩
  keep := fun i h h' ⟨⟨u, he⟩, hi, hne⟩ k => ⟨⟨u, k e (by simp) _ he⟩, hi.at fun o q => k it (by simp) o q, hne⟩
  item := by
    intro X hP hw hK hc i pins s σ H E I hf st hg
    subst hP hw hK
    obtain ⟨⟨u, he⟩, hit, hne⟩ := st
    obtain ⟨xs, x, hq, hx⟩ := hg
    obtain ⟨its, rv, p, hz⟩ := I.tuple hq
    obtain ⟨y, hy, ry⟩ := rv.get hx
    have hel : e < s.heap.objs.size := Heap.lt_size he
    have hil : it < s.heap.objs.size := by obtain ⟨_, q, _⟩ := hit; exact Heap.lt_size q
    have hT : s.heap.IsTuple a its.toArray := p
    have hd : X.A.in1.handled = none := I.ok.hd hc
    have hae : e ≠ a := fun z => by
      subst z
      obtain ⟨o, q, c1, _⟩ := hT
      rw [he] at q
      cases q
      revert c1
      simp
    have hai : a ≠ it := fun z => by
      subst z
      obtain ⟨o, q, c1, _⟩ := hT
      obtain ⟨o', q', c2, _⟩ := hit
      rw [q] at q'
      cases q'
      rw [c1] at c2
      revert c2
      simp
    have hlt : i < its.toArray.size := by
      have := (List.getElem?_eq_some_iff.mp hy).1
      simpa using this
    refine wpAny_pyNext_enum_itemD (Draws.tuple hd it a hai its.toArray) he ⟨hit, hT⟩ hlt hne (by simp [hne, hae]) fun z h' tk hz' ho st' hN hsz hk => ?_
    have ez : z = y := by
      have q : its[i]? = some z := by simpa using hz'
      rw [hy] at q
      exact (Option.some.inj q).symm
    subst ez
    refine ⟨_, rfl, wpAny_letOwnedTupleGo_enum (s := { s with heap := h', toks := tk + 1 }) ho fun h'' he' sb => ?_⟩
    have hN2 : h''.get? s.heap.objs.size = some { cls := .type "tuple", data := .seq #[.int i tk, z] } := (sb.2 _ (Nat.ne_of_gt hel)).trans hN
    have new : ObjOk X.prog X.w (upd H s.heap.objs.size (.tup [.int (i : Nat), x])) h'' s.heap.objs.size (.tup [.int (i : Nat), x]) := ⟨by show 2 ≤ sizeLine; decide, [.int i tk, z], .cons ⟨_, rfl⟩ (.cons ry .nil), ⟨_, hN2, rfl, _, rfl⟩⟩
    have I1 : Inv X pins σ (upd H s.heap.objs.size (.tup [.int (i : Nat), x])) { s with heap := h'', toks := tk + 1 } :=
      I.turnedNew (ch := [e, it]) (fun b ob hb q => (sb.2 b (fun z => hb (by simp [z]))).trans (hk b ob (fun z => hb (by simp [z])) (fun z => hb (by simp [z])) q)) hf (Nat.le_refl _) new
    refine ⟨.ref s.heap.objs.size, _, I1, rfl, ⟨_, x, rfl, I.hok.fresh (Nat.le_refl _), rfl, fun ys hy => by rw [I.tuple_inj hy hq]; exact hx⟩, ⟨⟨z, ?_⟩, st'.1.at fun o q => (sb.2 it (Ne.symm hne)).trans q, hne⟩, fun b hb => ?_⟩
    · rw [show ((i + 1 : Nat) : Int) = (i : Int) + 1 by omega]
      exact he'
    · have hb' : b < s.heap.objs.size := by
        rcases (by simpa using hb : b = e ∨ b = it) with rfl | rfl
        · exact hel
        · exact hil
      rw [upd_ne (Nat.ne_of_lt hb')]
      exact (hf b hb).1
  done := by
    intro X hP hw hK hc i pins s σ H E I hf st hg
    subst hP hw hK
    obtain ⟨⟨u, he⟩, hit, hne⟩ := st
    obtain ⟨xs, hq, hx⟩ := hg
    obtain ⟨its, rv, p, hz⟩ := I.tuple hq
    obtain ⟨f0, f1, f2, f3, f4, f5⟩ := hf it (by simp)
    have hl := rv.length
    have hT : s.heap.IsTuple a its.toArray := p
    have hd : X.A.in1.handled = none := I.ok.hd hc
    have D : Draws X.prog X.w X.A.in1 it [it, a] i (fun _ _ => True) (fun j h => j = i ∧ h.IsTupleIter it a i ∧ h.IsTuple a its.toArray) :=
      { live := fun _ _ ⟨_, ⟨o, ho, _⟩, _⟩ => ⟨o, ho⟩
        frame := fun _ _ _ ⟨z, u1, u2⟩ k => ⟨z, u1.at fun o q => k it (by simp) o q, u2.at fun o q => k a (by simp) o q⟩
        item := fun j _ _ _ lt ⟨z, _⟩ => absurd lt (by omega)
        done := fun s Q E ⟨_, u1, u2⟩ k => wpAny_nextOf_tuple_end hd u1 u2 (by simp; omega) k }
    exact wpAny_pyNext_enum_endD D he ⟨rfl, hit, hT⟩ fun h' eb => ⟨rfl, I.turned (t' := s.toks) (fun b o hb q => eb b o hb q) f0 f1 f3 f4 f5⟩
  self := fun A i s Q E ⟨⟨_, he⟩, _⟩ h => wpAny_pyIter_enum he h
def iEnT (K : PySem.W.Frag) (ta : TA) : TI := fun σ H R => ta σ H fun vs H1 => ∃ a xs, vs = [.ref a] ∧ SqT K H1 a xs ∧ R (Iet K a) H1
theorem pi_enT {X : Cx} {e : Expr} {ta : TA} {p pos tpos : Pos} {elts : List Expr} {kk : Nat} (hg : Gl X "enumerate") (hm : X.mg "enumerate" = none) (ha : PA X [e] ta) (hs : starEach [e] X.env = [(false, eval e X.env)] := by rfl) (hk : X.K = TabF.K := by first | rfl | assumption) :
    PI X (.Tuple elts kk tpos) (.Call (.Name "enumerate" p) [e] [] pos) (iEnT X.K ta) := by
  refine ⟨fun pins s σ H R I h => Call_ (ld_blt I hg hm boot_enumerate (PyProof.Rows.callWith_type1 (thn (ha.run pos pins s σ H _ I h) fun us s1 ⟨vs, H1, I1, r1, a, xs, ex, hq, q⟩ => ?_) hs rfl))⟩
  subst ex
  cases r1 with
  | cons r rr =>
    cases rr
    cases r
    obtain ⟨its, rv, p', hz⟩ := I1.tuple hq
    refine call_enT (show s1.heap.IsTuple a its.toArray from p') fun h' he hit hk => wpAny_pyIter_enum he ?_
    have I2 : Inv X pins σ H1 { s1 with heap := h' } := I1.kept (t' := s1.toks) hk
    refine ⟨s1.heap.objs.size + 1, [s1.heap.objs.size + 1, s1.heap.objs.size], _, _, H1, rfl, I2, turn_enT a (s1.heap.objs.size + 1) s1.heap.objs.size, ⟨⟨.none, he⟩, hit, Nat.succ_ne_self _⟩, fun b hb => ?_, q⟩
    have le : s1.heap.objs.size ≤ b := by
      rcases (by simpa using hb : b = s1.heap.objs.size + 1 ∨ b = s1.heap.objs.size) with z | z <;> rw [z]
      exact Nat.le_succ _
      exact Nat.le_refl _
    exact I1.fpOk le (I1.hok.fresh le)
theorem walk_enT {K : PySem.W.Frag} {a : Addr} {xs : List V} : L2.Walk (Iet K a) xs.length (fun H => SqT K H a xs) (YPair (fun i => some (.int (i : Nat))) (fun i => xs[i]?)) :=
  ⟨fun i _ hi q => ⟨xs, xs[i], q, by simp [hi]⟩, fun _ q => ⟨xs, q, Nat.le_refl _⟩, fun i H v H' _ q ⟨T, x, h1, h2, h3, h4⟩ => ⟨T, .int (i : Nat), x, h1, h2, h3, rfl, h4 xs q⟩⟩
section
variable {X : Cx} {Δ : Dx} {a b e : Expr} {fa fb fc : WE} {pos : Pos} {es : List Expr} {fr : WA}
theorem walk_eT {K : PySem.W.Frag} {F : Hp} {a : Addr} {vs : List V} {xs : List Px} (e : TupF F a vs) (r : RpA F vs xs) (hk : K = TabF.K := by first | rfl | assumption) : WalkX (Iet K a) (enumX 0 xs) F := by
  have w' := (walk_enT (K := K) (a := a) (xs := vs)).mono (G' := fun H => Le F H) (Y' := YD F (enumX 0 xs)) (fun H h => e.sq hk h) fun i H v H' hi _ ⟨T, y, z, h1, h2, h3, h4, h5⟩ => by
    obtain ⟨x, q1, q2⟩ := r.getV h5
    cases Option.some.inj h4
    refine ⟨_, enumX_get xs 0 i x q1, .inr ⟨T, _, _, h1, h2, h3, rfl, .cons ?_ (.one q2)⟩⟩
    rw [Int.zero_add]
    exact .int _
  unfold WalkX
  rw [enumX_length 0 xs, ← r.length]
  exact w'
def iEnmT (f : WA) : WI := fun c P X => f c (fun rs c1 => match rs with
  | [.d (.tuple xs)] => P (enumX 0 xs) c1
  | _ => False) X
theorem di_enT {p tpos : Pos} {elts : List Expr} {kk : Nat} (hK : Δ.K = X.K) (hg : Gl X "enumerate") (hm : X.mg "enumerate" = none) (ha : PA X [a] (tA Δ fr)) (hs : starEach [a] X.env = [(false, eval a X.env)] := by rfl) (hk : X.K = TabF.K := by first | rfl | assumption) :
    PI X (.Tuple elts kk tpos) (.Call (.Name "enumerate" p) [a] [] pos) (tI Δ (iEnmT fr)) := by
  refine (pi_enT hg hm ha hs).imp fun σ H R ⟨am, F, c, P, XX, ok, hf, kq, kx⟩ => ⟨am, F, c, _, XX, ok, hf, fun rs c1 F1 vs H1 p1 l1 o1 s1 => ?_, kx⟩
  split at p1
  · cases s1 with
    | d r s =>
      cases s
      cases r with
      | tup e r1 => exact ⟨_, _, rfl, e.sq hk o1.fh, kq _ c1 F1 H1 _ p1 l1 o1 (walk_eT e r1)⟩
  · exact p1.elim
end
theorem min2C_i {i j : Int} {P : Rv → Prop} : min2C [.d (.int i), .d (.int j)] P = P (.d (.int (if j < i then j else i))) := rfl
theorem lenC_s {ns : List Int} {P : Rv → Prop} : lenC [.scr ns] P = P (.d (.int ns.length)) := rfl
theorem strOk_of (s : String) : PyData.strOk (Str.ofString s) = true := by
  rw [Str.ofString_eq_toList]
  simp only [PyData.strOk, List.all_toArray, List.all_map, List.all_eq_true, Function.comp, decide_eq_true_eq]
  intro c _
  have := c.valid
  unfold UInt32.isValidChar Nat.isValidChar at this
  unfold Char.toNat
  omega
def rb (b : Bool) : Str := if b then "True" else "False"
def ri (i : Int) : Str := toString i
theorem rb_ok (b : Bool) : PyData.strOk (rb b) = true := by cases b <;> exact strOk_of _
theorem ri_ok (i : Int) : PyData.strOk (ri i) = true := strOk_of _
theorem reprC_b {b : Bool} {P : Rv → Prop} : reprC [.d (.bool b)] P = P (.d (.str (rb b))) := rfl
theorem reprC_i {i : Int} {P : Rv → Prop} : reprC [.d (.int i)] P = (i.natAbs.log2 < 1920 ∧ P (.d (.str (ri i)))) := rfl
theorem sh_str {s : Str} (h : PyData.strOk s = true) : SeqAt.shaped (.str s) = true := by simp [SeqAt.shaped, PyData.canLay0, PyData.depth, h]
theorem eqv_rb (b c : Bool) : PyData.eqv (.str (rb b)) (.str (rb c)) = (b == c) := by
  cases b <;> cases c <;> decide +kernel
theorem eqt_rb {b c : Bool} {P : Rv → Prop} : eqD true (.str (rb b)) (.str (rb c)) P = P (.d (.bool (!(b == c)))) := by simp only [eqD, sh_str (rb_ok _), eqv_rb, true_and]; rfl
theorem eqf_rb {b c : Bool} {P : Rv → Prop} : eqD false (.str (rb b)) (.str (rb c)) P = P (.d (.bool (b == c))) := by simp only [eqD, sh_str (rb_ok _), eqv_rb, true_and]; rfl
theorem eqt_ri {i : Int} {P : Rv → Prop} : eqD true (.str (ri i)) (.str (ri i)) P = P (.d (.bool false)) := by
  have e : PyData.eqv (.str (ri i)) (.str (ri i)) = true := by simp [PyData.eqv]
  simp only [eqD, sh_str (ri_ok _), e, true_and]; rfl
theorem slD_t {xs : List Px} {lo hi : Option Int} {k : Rv → Prop} : slD (.tuple xs) lo hi k = k (.d (.tuple (cutX xs lo hi))) := rfl
end Dl
set_option Elab.async false
set_option maxRecDepth 100000
set_option linter.all false
set_option autoImplicit false
/-! repr of tuples of plain data, where no repr is under way -/
namespace Dl
open PySem PySem.Spec PyProof.Rows L2
variable [TabF]
theorem ok_app (a b : Str) : PyData.strOk (a ++ b) = (PyData.strOk a && PyData.strOk b) := by
  show ((a.cps ++ b.cps).all fun c => decide (c < 0x110000)) = _
  rw [Array.all_append]
  rfl
theorem ok_join : ∀ {ts : List Str}, (∀ t ∈ ts, PyData.strOk t = true) → PyData.strOk (Str.join ", " ts) = true
  | [], _ => strOk_of ""
  | [x], h => h x (by simp)
  | x :: y :: r, h => by
    show PyData.strOk (x ++ ", " ++ Str.join ", " (y :: r)) = true
    rw [ok_app, ok_app, h x (by simp), ok_join fun t ht => h t (by simp only [List.mem_cons] at ht ⊢; exact .inr ht)]
    have : PyData.strOk (", " : Str) = true := strOk_of ", "
    rw [this]
    rfl
theorem ok_tuple {ts : List Str} (h : ∀ t ∈ ts, PyData.strOk t = true) : PyData.strOk (tupleText ts) = true := by
  unfold tupleText
  rw [ok_app, ok_app, ok_join h]
  have h1 : PyData.strOk ("(" : Str) = true := strOk_of "("
  have h2 : ∀ b : Bool, PyData.strOk (if b = true then ",)" else ")" : String) = true := fun b => by cases b <;> exact strOk_of _
  rw [h1, h2]
  rfl
/-- e: how deep, b: how long its text is at most -/
structure Sho (e b : Nat) (d : Px) : Prop where
  sh : d.showable = true
  nd : d.hasDict = false
  dp : d.depth ≤ e
  ln : d.shown.length ≤ b
  ok : PyData.strOk d.shown = true
theorem Sho.int {e : Nat} {i : Int} (h : i.natAbs.log2 < 1920) : Sho e 1921 (.int i) := ⟨by simp [PyData.showable, h], rfl, Nat.zero_le _, int_text_len_1921 h, ri_ok i⟩
theorem Sho.mono {e b e' b' : Nat} {d : Px} (h : Sho e b d) (h1 : e ≤ e') (h2 : b ≤ b') : Sho e' b' d := ⟨h.sh, h.nd, Nat.le_trans h.dp h1, Nat.le_trans h.ln h2, h.ok⟩
theorem sho_all {e b : Nat} : ∀ {xs : List Px}, (∀ x ∈ xs, Sho e b x) → PyData.showableAll xs = true ∧ PyData.hasDictAll xs = false ∧ PyData.depthAll xs ≤ e ∧ ((PyData.shownAll xs).map (·.length)).sum ≤ xs.length * b ∧ (PyData.shownAll xs).length = xs.length ∧ ∀ t ∈ PyData.shownAll xs, PyData.strOk t = true
  | [], _ => ⟨rfl, rfl, Nat.zero_le _, by simp [PyData.shownAll], rfl, fun t h => by cases h⟩
  | x :: xs, h => by
    obtain ⟨h1, h2, h3, h4, h5, h6⟩ := sho_all (xs := xs) fun y hy => h y (List.mem_cons_of_mem _ hy)
    have hx := h x List.mem_cons_self
    refine ⟨by simp [PyData.showableAll, hx.sh, h1], by simp [PyData.hasDictAll, hx.nd, h2], ?_, ?_, by simp [PyData.shownAll, h5], fun t ht => ?_⟩
    · have := hx.dp
      simp only [PyData.depthAll]
      omega
    · have := hx.ln
      simp only [PyData.shownAll, List.map_cons, List.sum_cons, List.length_cons, Nat.succ_mul]
      omega
    · rcases List.mem_cons.mp ht with rfl | ht
      · exact hx.ok
      · exact h6 t ht
theorem Sho.tup {e b n : Nat} {xs : List Px} (h : ∀ x ∈ xs, Sho e b x) (hl : xs.length ≤ n) : Sho (e + 1) (n * b + 2 * n + 3) (.tuple xs) := by
  obtain ⟨h1, h2, h3, h4, h5, h6⟩ := sho_all h
  refine ⟨by simpa [PyData.showable] using h1, by simpa [PyData.hasDict] using h2, ?_, ?_, ok_tuple h6⟩
  · simp only [PyData.depth]
    omega
  · have t := tupleText_len_le (PyData.shownAll xs)
    have m : xs.length * b ≤ n * b := Nat.mul_le_mul_right b hl
    show (tupleText (PyData.shownAll xs)).length ≤ _
    omega
section
variable {X : Cx} {Δ : Dx}
theorem cr_repr_tup (hg : X.A.guards = some []) (hu : X.A.units + 64 < cLine) : CallR X (.builtin "repr") (fun vs H Q => ∃ v xs, vs = [v] ∧ Dp X.K H v (.tuple xs) ∧ Sho 40 1000000 (.tuple xs) ∧ Q (.str (PyData.shown (.tuple xs))) H) := by
  intro pins s σ H vs us Q I r h
  obtain ⟨v, xs, rfl, hd, hs, q⟩ := h
  cases r with
  | cons r rr =>
    cases rr
    obtain ⟨as, rd⟩ := Dp.reads I _ _ _ hd r
    have hd' := hd
    cases hd' with
    | tup e1 e2 =>
      cases r
      refine repr_of_reads' rd hs.sh (fun z => by rw [hs.nd] at z; cases z) hg (by have := hs.dp; omega) (fun _ _ e => e) (fun h' u tk k => ?_) (Nat.le_trans hs.ln (by rw [sizeLine_eq]; decide))
      exact ⟨.str _, H, I.kept (t' := tk) k, ⟨_, rfl⟩, q⟩
def reprA : CD := fun rs P => match rs with
  | [.d (.bool b)] => P (.d (.str (rb b)))
  | [.d (.int i)] => i.natAbs.log2 < 1920 ∧ P (.d (.str (ri i)))
  | [.d (.tuple xs)] => Sho 40 1000000 (.tuple xs) ∧ P (.d (.str (PyData.shown (.tuple xs))))
  | _ => False
end
theorem reprA_b {b : Bool} {P : Rv → Prop} : reprA [.d (.bool b)] P = P (.d (.str (rb b))) := rfl
theorem reprA_i {i : Int} {P : Rv → Prop} : reprA [.d (.int i)] P = (i.natAbs.log2 < 1920 ∧ P (.d (.str (ri i)))) := rfl
theorem reprA_t {xs : List Px} {P : Rv → Prop} : reprA [.d (.tuple xs)] P = (Sho 40 1000000 (.tuple xs) ∧ P (.d (.str (PyData.shown (.tuple xs))))) := rfl
end Dl
set_option Elab.async false
set_option maxRecDepth 100000
set_option linter.all false
set_option autoImplicit false
/-! sorted: ints, and tuples of ints -/
namespace Dl
open PySem PySem.Spec PyProof.Rows L2
variable [TabF]
section
variable {X : Cx} {Δ : Dx}
theorem RpA.of_ints {F : Hp} : ∀ ns : List Int, RpA F (ns.map V.int) (ns.map .int)
  | [] => .nil
  | n :: ns => .cons (.int n) (RpA.of_ints ns)
def sortIC : CD := fun rs P => match rs with
  | [.d (.list xs)] => ∃ ns : List Int, xs = ns.map .int ∧ ∀ ms : List Int, ms.Perm ns → ms.Pairwise (· ≤ ·) → P (.own (ms.map .int))
  | _ => False
theorem cl_sortI (hK : Δ.K = X.K) : ClD X Δ (.builtin "sorted") sortIC :=
  ⟨_, cr_sortedI, fun am F σ H c vs rs P Q ok rx ho k => by
    unfold sortIC at ho
    split at ho
    · obtain ⟨ns, rfl, ho⟩ := ho
      cases rx with
      | d r s =>
        cases s
        cases r with
        | lst e r1 =>
          have z := r1.ints
          subst z
          refine ⟨_, ns, rfl, SqL.of (ok.fh _ _ e), fun ms p h1 h2 hp => ?_⟩
          obtain ⟨o', rs⟩ := Rs.fresh ok hp (RpA.of_ints ms)
          exact k _ F _ _ (ho ms h1 h2) (Le.refl F) o' rs
    · exact ho.elim⟩
end
/-! tuples of ints -/
def tupI (l : List Int) : Px := .tuple (l.map .int)
def vInt : V → Int
  | .int i => i
  | _ => 0
/-- the ints of the tuple that v names -/
def kV (F : Hp) : V → List Int
  | .ref t => (match F t with
    | some (.tup ws) => ws.map vInt
    | _ => [])
  | _ => []
end Dl
set_option Elab.async false
set_option maxRecDepth 100000
set_option linter.all false
set_option autoImplicit false
namespace Dl
open PySem L2
variable [TabF]
section
variable {t : WT} {f : WS} {X : XP} {P : Fl → Prop}
/-- a while loop: I holds ahead of each turn, μ gets less -/
theorem whW_ind (I : Cf → Prop) (μ : Cf → Nat) (hs : ∀ c, I c → ∀ R : Cf → Prop, (∀ c', I c' → μ c' < μ c → R c') →
      t c (fun b c1 => if b = true then f c1 (fun fl => match fl with
        | .nx c2 => R c2
        | .ct c2 => R c2
        | .bk c2 => P (.nx c2)
        | .rt r gs => P (.rt r gs)) X else P (.nx c1)) X) (c : Cf) (h : I c) : ∃ n, whW t f X P n c := by
  have key : ∀ (n : Nat) (c : Cf), I c → μ c < n → whW t f X P n c := by
    intro n
    induction n with
    | zero => exact fun c _ h => absurd h (Nat.not_lt_zero _)
    | succ n ih => exact fun c hI hm => hs c hI (fun c' => whW t f X P n c') fun c' h1 h2 => ih c' h1 (by omega)
  exact ⟨_, key _ c h (Nat.lt_succ_self _)⟩
end
end Dl
set_option Elab.async false
set_option maxRecDepth 100000
set_option linter.all false
set_option autoImplicit false
/-! t[::-1] of a tuple; name[i] op= e -/
namespace HT
open PySem PySem.Spec PyProof.Rows L2
section
variable {prog : Program} {w : World} {A : Around} {E : Value → Shared → Prop} {s : Shared}
theorem getItem_tuple_rev {t sl : Addr} {items : Array Value} {vs : Value} {Q : Value → Shared → Prop} (ht : IsTup s.heap t items) (hs : s.heap.IsSliceOf sl .none .none vs) (ps : IsPart vs (some (-1)))
    (h : Q (.ref s.heap.objs.size) { s with heap := s.heap.push { cls := .type "tuple", data := .seq items.toList.reverse.toArray } })
    (hsz : items.size ≤ sizeLine) : wpAny (model prog w) A (getItem (.ref t) (.ref sl)) Q E s := by
  have htake : sizeOk (.seq items.toList.reverse.toArray) := by
    show items.toList.reverse.toArray.size ≤ sizeLine
    rw [List.size_toArray, List.length_reverse, Array.length_toList]
    omega
  obtain ⟨os, hos, hcs, hds⟩ := id hs
  have hTs : s.TypeIs (.ref sl) "slice" := ⟨os, hos, hcs⟩
  unfold getItem
  try with_reducible refine wpAny_holding ?_
  first | refine wpAny_bind (wpAny_pure ?_) | skip
  refine wpAny_bind (wpAny_sequenceKey ht.typeIs (by decide) ?_)
  refine wpAny_bind (wpAny_callSpecial?_slot (name := Str.ofString "__getitem__") ht.typeIs PyProof.Rows.slot_tuple_getitem
    (wpAny_call_entry PyProof.Rows.slot_tuple_getitem ht.typeIs entry_tuple_getitem ?_ (args_tuple_getitem _ _)))
  show wpAny _ _ (Builtin.Tuple.tupleItemsOf (.ref t) >>= _) _ _ s
  refine wpAny_bind (tupleItemsOf_ ht ?_)
  refine wpAny_bind (wpAny_typeOf hTs ?_)
  rw [if_pos (by decide)]
  have happ : ∀ (A : Around) (E : Value → Shared → Prop) (Q : Int × Int × Nat → Shared → Prop), Q ((items.size : Int) - 1, -1, items.size) s → wpAny (model prog w) A (Builtin.Slice.sliceApplied (.ref sl) (pure (items.size : Int))) Q E s := by
    intro A E Q h
    unfold Builtin.Slice.sliceApplied Builtin.Slice.sliceFields
    refine wpAny_bind (wpAny_bind (wpAny_field hos hds (x := .none) rfl (wpAny_bind (wpAny_field hos hds (x := .none) rfl (wpAny_bind (wpAny_field hos hds (x := vs) rfl (wpAny_pure ?_)))))))
    refine wpAny_bind (slicePart_ ps ?_)
    show wpAny _ _ (if ((-1 : Int) == 0) = true then _ else _) _ _ s
    rw [if_neg (by decide)]
    refine wpAny_bind (slicePart_none (wpAny_bind (slicePart_none (wpAny_bind (wpAny_pure ?_)))))
    show wpAny _ _ (pure ((items.size : Int) - 1, (-1 : Int), Builtin.Slice.slicePlaces ((items.size : Int) - 1) (-1) (-1))) _ _ s
    have e : Builtin.Slice.slicePlaces ((items.size : Int) - 1) (-1) (-1) = items.size := by
      unfold Builtin.Slice.slicePlaces
      rw [if_neg (by decide)]
      split <;> simp <;> omega
    rw [e]
    exact wpAny_pure h
  refine wpAny_bind (happ _ _ _ ?_)
  have hno : ¬ (((((items.size : Int) - 1) == 0 && (-1 : Int) == 1) && (items.size == items.size)) = true) := by simp
  show wpAny _ _ (if (((((items.size : Int) - 1) == 0 && (-1 : Int) == 1) && (items.size == items.size)) = true) then _ else _) _ _ s
  have pick : ((List.range items.size).filterMap fun (m : Nat) => items[(((items.size : Int) - 1) + (m : Int) * (-1)).toNat]?).toArray = items.toList.reverse.toArray := by
    congr 1
    have e : ∀ n : Nat, n ≤ items.size → ((List.range n).filterMap fun (m : Nat) => items[(((items.size : Int) - 1) + (m : Int) * (-1)).toNat]?) = items.toList.reverse.take n := by
      intro n
      induction n with
      | zero => intro _; rfl
      | succ n ih =>
        intro hn
        rw [List.range_succ, List.filterMap_append, ih (by omega), List.take_succ]
        congr 1
        have e1 : (((items.size : Int) - 1) + (n : Int) * (-1)).toNat = items.size - 1 - n := by omega
        have h2 : items.size - 1 - n < items.size := by omega
        have e3 : items[items.size - 1 - n]? = some items[items.size - 1 - n] := by simp [h2]
        have e4 : items.toList.reverse[n]? = some items[items.size - 1 - n] := by
          rw [List.getElem?_reverse (by rw [Array.length_toList]; omega), Array.length_toList, Array.getElem?_toList, e3]
        simp only [e4, Option.toList_some]
        rw [List.filterMap_cons_some (by rw [e1]; exact e3), List.filterMap_nil]
    rw [e _ (Nat.le_refl _), List.take_of_length_le (by simp)]
  rw [if_neg hno, pick]
  first
    | exact wpAny_bind (m := Builtin.Tuple.tupleExact _) (wpAny_newObj_type (wpAny_pure ⟨_, rfl, wpAny_pure h⟩) htake)
    | exact wpAny_bind (m := Builtin.Tuple.tupleExact _) (wpAny_newObj_type (wpAny_bind (wpAny_pure (wpAny_pure ⟨_, rfl, wpAny_pure h⟩))) htake)
    | exact wpAny_bind (wpAny_bind (m := Builtin.Tuple.tupleExact _) (wpAny_newObj_type (wpAny_pure (wpAny_pure ⟨_, rfl, wpAny_pure h⟩)) htake))
    | exact wpAny_bind (wpAny_bind (m := Builtin.Tuple.tupleExact _) (wpAny_newObj_type (wpAny_pure ⟨_, rfl, wpAny_pure h⟩) htake))
end
end HT
namespace L2
open PySem PySem.Spec PyProof.Rows
section
variable {X : Cx}
def tRevT (K : PySem.W.Frag) (te : TE) : TE := fun σ H Q => te σ H fun x H1 => ∃ a xs, x = .ref a ∧ SqT K H1 a xs ∧ ∀ p, H1 p = none → Q (.ref p) (upd H1 p (.tup xs.reverse))
theorem pe_revT {e : Expr} {te : TE} {k : Nat} {p1 p2 p3 pos : Pos} (he : PE X e te) : PE X (.Subscript e (.Slice none none (some (.UnaryOp .USub (.Constant (.int 1) k p1) p2)) p3) pos) (tRevT X.K te) := by
  refine ⟨fun pins s σ H Q I h => ?_⟩
  refine Subscript_ (thn (he.run pins s σ H _ I h) fun v s1 ⟨x, H1, I1, r1, q1⟩ => ?_)
  obtain ⟨a, xs, ex, hx, q⟩ := q1
  subst ex
  cases r1
  have hst : PO X (some (.UnaryOp .USub (.Constant (.int 1) k p1) p2)) (tPart (tUn (rU fun i => .int (-i)) (tC (.int 1)))) := po_some (pe_un un_neg pe_int)
  refine wpAny_Slice (thn (po_none.run pins s1 σ H1 (fun o H2 => o = none ∧ H2 = H1) I1 ⟨rfl, rfl⟩) fun vl s2 ⟨l, H2, I2, pl, el, e2⟩ => ?_)
  subst el e2
  refine thn (po_none.run pins s2 σ H2 (fun o H3 => o = none ∧ H3 = H2) I2 ⟨rfl, rfl⟩) fun vu s3 ⟨u, H3, I3, pu, eu, e3⟩ => ?_
  subst eu e3
  refine thn (hst.run pins s3 σ H3 (fun o H4 => o = some (-1) ∧ H4 = H3) I3 ⟨1, rfl, -1, rfl, rfl, rfl⟩) fun vs s4 ⟨o, H4, I4, ps, eo, e4⟩ => ?_
  subst eo e4
  cases pl
  cases pu
  have I5 : Inv X pins σ H4 { s4 with heap := s4.heap.push { cls := .type "slice", data := .fields #[.none, .none, vs] } } := I4.kept (t' := s4.toks) fun b ob q => Heap.get?_push_of_some _ q
  obtain ⟨its, r, ht, hz⟩ := I5.tuple hx
  have hlen := r.length
  show wpAny (model X.prog X.w) X.A (subscriptTail e (.Slice none none (some (.UnaryOp .USub (.Constant (.int 1) k p1) p2)) p3) (.ref a) (.ref s4.heap.objs.size)) (EP X pins σ Q) X.xe { s4 with heap := s4.heap.push { cls := .type "slice", data := .fields #[.none, .none, vs] } }
  refine tail_any (ops := [.ref a, .ref s4.heap.objs.size]) ht.typeIs (PyProof.Rows.slot_tuple_getitem.lookup) ?_ (by with_unfolding_all rfl)
  refine HT.getItem_tuple_rev ht (Heap.IsSliceOf.new _ .none .none vs) ps ?_ (by rw [List.size_toArray]; omega)
  refine ⟨.ref _, _, I5.laid (t' := s4.toks) (o := .tup xs.reverse) (fun b ob q => Heap.get?_push_of_some _ q) (Nat.le_refl _) ?_, rfl, q _ (I5.hok.fresh (Nat.le_refl _))⟩
  exact ⟨by rw [List.length_reverse]; exact hz, _, r.reverse, IsTup.new _ _⟩
end
end L2
set_option Elab.async false
set_option maxRecDepth 100000
set_option linter.all false
set_option autoImplicit false
namespace Dl
open PySem PySem.Spec PyProof.Rows L2
variable [TabF]
section
variable {X : Cx} {Δ : Dx} {a b e : Expr} {fa fb : WE} {pos p2 : Pos}
theorem RpA.rev {F : Hp} : ∀ {vs : List V} {xs : List Px}, RpA F vs xs → RpA F vs.reverse xs.reverse
  | _, _, .nil => .nil
  | _, _, .cons h t => by
    rw [List.reverse_cons, List.reverse_cons]
    exact (RpA.rev t).append (.one h)
/-- t[::-1], a tuple -/
def revD (x : Px) (k : Rv → Prop) : Prop := match x with
  | .tuple xs => k (.d (.tuple xs.reverse))
  | _ => False
def eRevT (fa : WE) : WE := fun c P X => fa c (fun r1 c1 => asD r1 fun x => revD x fun r => P r c1) X
theorem revD_t {xs : List Px} {k : Rv → Prop} : revD (.tuple xs) k = k (.d (.tuple xs.reverse)) := rfl
theorem de_revT {k : Nat} {p1 q2 p3 : Pos} (ha : PE X a (tE Δ fa)) (hK : Δ.K = X.K) (hk : X.K = TabF.K := by first | rfl | assumption) : PE X (.Subscript a (.Slice none none (some (.UnaryOp .USub (.Constant (.int 1) k p1) q2)) p3) pos) (tE Δ (eRevT fa)) := by
  refine (pe_revT ha).imp fun σ H Q ⟨am, F, c, P, XX, ok, hf, kq, kx⟩ => ?_
  refine ⟨am, F, c, _, XX, ok, hf, fun r1 c1 F1 v1 H1 p1 l1 o1 s1 => ?_, kx⟩
  obtain ⟨x, F1', hx, l1', o1', rp1⟩ := s1.data o1 p1
  unfold revD at hx
  split at hx
  · cases rp1 with
    | tup e1 r1 =>
      refine ⟨_, _, rfl, e1.sq hk o1'.fh, fun p hp => ?_⟩
      obtain ⟨o', l, rp⟩ := o1'.tupN hp r1.rev
      exact kq _ c1 _ _ _ hx ((l1.trans l1').trans l) o' (.of rp)
  · exact hx.elim
/-- name[i] op= e, over ints -/
def itI (xs : List Px) (k : Int) (f : Int → Prop) : Prop := 0 ≤ k ∧ match xs[k.toNat]? with
  | some (.int z) => f z
  | _ => False
def sSetIA (i : Nat) (o : Int → Int → Int) (fi fe : WE) : WS := fun c P X => isOwn c i ∧ fi c (fun r c1 => asD r fun x => match x with
  | .int k => ownD c1 i fun xs => itI xs k fun z => fe c1 (fun r2 c2 => asD r2 fun y => match y with
    | .int d => ownD c2 i fun ys => (match ixN ys.length k with
      | some j => P (.nx (putE c2 i (.own (ys.set j (.int (o z d))))))
      | none => False)
    | _ => False) X
  | _ => False) X
theorem sSetIA_eq {i : Nat} {o : Int → Int → Int} {fi fe : WE} {c : Cf} {P : Fl → Prop} {XX : XP} : sSetIA i o fi fe c P XX = (isOwn c i ∧ fi c (fun r c1 => asI r fun k => ownD c1 i fun xs => itI xs k fun z => fe c1 (fun r2 c2 => asI r2 fun d => ownD c2 i fun ys => ∃ j, ixN ys.length k = some j ∧ P (.nx (putE c2 i (.own (ys.set j (.int (o z d))))))) XX) XX) := by
  have hI : ∀ (r : Rv) (g : Int → Prop), (asD r fun x => match x with
      | .int k => g k
      | _ => False) = asI r g := fun r g => by
    cases r with
    | d x => cases x <;> rfl
    | own xs => rfl
    | gen => rfl
    | scr ns => rfl
    | dic D => rfl
  unfold sSetIA
  congr 2
  funext r c1
  refine (hI r _).trans ?_
  congr 1
  funext k
  congr 1
  funext xs
  congr 1
  funext z
  congr 1
  funext r2 c2
  refine (hI r2 _).trans ?_
  congr 1
  funext d
  congr 1
  funext ys
  apply propext
  constructor
  · intro h
    split at h
    · rename_i j ej
      exact ⟨j, ej, h⟩
    · exact h.elim
  · rintro ⟨j, ej, h⟩
    rw [ej]
    exact h
end
end Dl
set_option Elab.async false
set_option maxRecDepth 100000
set_option linter.all false
set_option autoImplicit false
/-! defs that return two lists that nothing else holds -/
namespace Dl
open PySem L2
variable [TabF]
abbrev Cn2 := List Rv → (List Px → List Px → Prop) → Prop
section
variable {X : Cx} {Δ : Dx} {a b e : Expr} {fa fb : WE} {pos : Pos} {es : List Expr} {fr : WA}
/-- a, b = f(..) -/
def sUnp2 (i j : Nat) (Pr : Cn2) (f : WA) : WS := fun c P X => f c (fun rs c1 => Rv.gen ∉ rs ∧ Pr rs fun xs ys => P (.nx (putE (putE c1 i (.own xs)) j (.own ys)))) X
end
end Dl
set_option Elab.async false
set_option maxRecDepth 100000
set_option linter.all false
set_option autoImplicit false
/-! math.gcd by a module's name; a tuple times an int -/
namespace Dl
open PySem L2
variable [TabF]
section
variable {X : Cx} {Δ : Dx} {a b e : Expr} {fa fb : WE} {pos : Pos} {es : List Expr} {fr : WA}
def gcdC : CD := fun rs P => match rs with
  | [.d (.int i), .d (.int j)] => P (.d (.int ((Nat.gcd i.natAbs j.natAbs : Nat) : Int)))
  | _ => False
theorem gcdC_i {i j : Int} {P : Rv → Prop} : gcdC [.d (.int i), .d (.int j)] P = P (.d (.int ((Nat.gcd i.natAbs j.natAbs : Nat) : Int))) := rfl
/-- is, is not, of bools -/
def isBD (neg : Bool) : OD := fun x y P => match x, y with
  | .bool a, .bool b => P (.d (.bool (if neg then !decide (a = b) else decide (a = b))))
  | _, _ => False
theorem sc_isB : ScD X (compareOp .Is) (isBD false) :=
  ⟨_, op_isBl, fun G H vx vy x y P Q l rx ry ho k => by
    unfold isBD at ho
    split at ho
    · cases rx
      cases ry
      exact ⟨_, _, rfl, rfl, k _ _ ho fun F => .bl _⟩
    · exact ho.elim⟩
theorem isBD_f {a b : Bool} {P : Rv → Prop} : isBD false (.bool a) (.bool b) P = P (.d (.bool (decide (a = b)))) := rfl
theorem isBD_t {a b : Bool} {P : Rv → Prop} : isBD true (.bool a) (.bool b) P = P (.d (.bool (!decide (a = b)))) := rfl
end
end Dl
set_option Elab.async false
set_option maxRecDepth 100000
set_option linter.all false
set_option autoImplicit false
/-! repr of None too -/
namespace Dl
open PySem PySem.Spec PyProof.Rows L2
variable [TabF]
section
variable {X : Cx} {Δ : Dx}
theorem cr_repr_non : CallR X (.builtin "repr") (fun vs H Q => vs = [.non] ∧ Q (.str "None") H) := by
  intro pins s σ H vs us Q I r h
  obtain ⟨rfl, q⟩ := h
  obtain ⟨u, rfl, e⟩ := vals1 r
  cases e
  exact PySem.P.repr_of_none ⟨.str _, H, I.tok _, ⟨_, rfl⟩, q⟩
def reprN : CD := fun rs P => match rs with
  | [.d .none] => P (.d (.str "None"))
  | [.d (.bool b)] => P (.d (.str (rb b)))
  | [.d (.int i)] => i.natAbs.log2 < 1920 ∧ P (.d (.str (ri i)))
  | [.d (.tuple xs)] => Sho 40 1000000 (.tuple xs) ∧ P (.d (.str (PyData.shown (.tuple xs))))
  | _ => False
theorem reprN_n {P : Rv → Prop} : reprN [.d .none] P = P (.d (.str "None")) := rfl
theorem reprN_b {b : Bool} {P : Rv → Prop} : reprN [.d (.bool b)] P = P (.d (.str (rb b))) := rfl
theorem reprN_i {i : Int} {P : Rv → Prop} : reprN [.d (.int i)] P = (i.natAbs.log2 < 1920 ∧ P (.d (.str (ri i)))) := rfl
theorem reprN_t {xs : List Px} {P : Rv → Prop} : reprN [.d (.tuple xs)] P = (Sho 40 1000000 (.tuple xs) ∧ P (.d (.str (PyData.shown (.tuple xs))))) := rfl
end
end Dl
set_option Elab.async false
set_option maxRecDepth 100000
set_option linter.all false
set_option autoImplicit false
/-! // by a great int of either sign -/
namespace Dl
open PySem PySem.Spec PyProof.Rows L2
variable [TabF]
section
variable {X : Cx} {Δ : Dx}
def CDivB (_ j : Int) : Prop := j ≠ 0 ∧ j.natAbs.log2 < 9000
abbrev fdivB : OD := iD (fun i j => .int (i.fdiv j)) CDivB
theorem fdivB_i {i j : Int} {P : Rv → Prop} : fdivB (.int i) (.int j) P = (CDivB i j ∧ P (.d (.int (i.fdiv j)))) := rfl
end
end Dl
set_option Elab.async false
set_option maxRecDepth 100000
set_option linter.all false
set_option autoImplicit false
namespace Dl
open PySem L2
variable [TabF]
/-! ### exceptions of the program's own classes -/
theorem two {a b : Bool} (h : (a && b) = true) : a = true ∧ b = true := by
  cases a
  · cases h
  · exact ⟨rfl, h⟩
theorem xcA_of {K : PySem.W.Frag} {C : Addr} (h : xcA K C = true) : ∃ nm q N bs bm sn sub ab col dd k0 k1 k2 k3 k5, K.lookup C = some (excClassObj nm q C N bs bm true sn sub ab col dd k0 k1 k2 k3 k5 "ValueError.__new__") ∧ PySem.HandSPX.refsVE bm = true := by
  unfold xcA at h
  split at h
  · rename_i dd cd sl ho
    split at h
    · rename_i c bm k0 k1 k2 k3 n k5 hm hs
      obtain ⟨h1, h⟩ := two h
      obtain ⟨h2, h⟩ := two h
      obtain ⟨h3, h⟩ := two h
      obtain ⟨h4, h5⟩ := two h
      have h1 := of_decide_eq_true h1
      have h2 := of_decide_eq_true h2
      subst h1 h2
      obtain ⟨nm, bs, mro, ns, qn, hd, sn, sub, ab, col, dl⟩ := cd
      have e1 : hd = true := h3
      have e2 : dl = false := by
        have : (!dl) = true := h4
        cases dl
        · rfl
        · cases this
      have e3 : mro = .ref c :: bm := hm
      subst e1 e2 e3
      obtain ⟨l⟩ := sl
      have e4 : l = [k0, k1, k2, k3, some (.builtin "ValueError.__new__"), k5] := hs
      subst e4
      exact ⟨_, _, _, _, _, _, _, _, _, _, _, _, _, _, _, ho, h5⟩
    · cases h
  · cases h
structure XCls (K : PySem.W.Frag) (C : Addr) : Prop where
  o : OexC K C
  f : XfC K C
theorem xc_of {K : PySem.W.Frag} {C : Addr} (h : xcB K C = true) : XCls K C := by
  obtain ⟨h1, h⟩ := two h
  obtain ⟨h2, h⟩ := two h
  obtain ⟨h3, h⟩ := two h
  obtain ⟨h4, h5⟩ := two h
  have f := xfB_ok h5
  exact ⟨⟨xcA_of h1, of_decide_eq_true h2, f.exC, of_decide_eq_true h3, h4⟩, f⟩
/-- an exception, as the heap has it -/
def XR (mg : Str → Option Value) (F H : Hp) (x : Xn) (cls : Value) (d : Option Addr) : Prop :=
  ∃ C dd fs, mg x.cls = some (.ref C) ∧ cls = .ref C ∧ d = some dd ∧ H dd = some (.xd fs) ∧ ∀ f p, x.fields.lookup f = some p → ∃ v, fs.lookup f = some v ∧ Rp F v p
/-- contracts of defs that may raise -/
abbrev CnX := List Rv → Option Nat → (Rv → Option Nat → Prop) → (Xn → Option Nat → Prop) → Prop
def spX (K : PySem.W.Frag) (mg : Str → Option Value) (Pr : CnX) : Sp := fun vs H Q E => ∃ am F rs g P PX, Le F H ∧ Tb0 K F H ∧ (∀ n, g = some n → F am = none ∧ GenAt F H am n) ∧ Rss (dx0 K am g F H) am F rs vs ∧ Pr rs g P PX ∧
  (∀ r g' am' F' v H', P r g' → Le F F' → Fin (dx0 K am g F H) am' F' H' g' → Sl (dx0 K am g F H) am' F' H' r v → Q v H') ∧
  ∀ x g' am' F' H' cls d, PX x g' → Le F F' → Fin (dx0 K am g F H) am' F' H' g' → XR mg F' H' x cls d → E cls d H'
structure CalX (P : Program) (w : World) (K : PySem.W.Frag) (mg : Str → Option Value) (base : Heap) (k : Nat) (x : Str) (Pr : CnX) : Prop where
  ex : ∃ (f : Addr) (fd : FuncData) (ps : List Str), FnG P w K mg base (L2.CX P w) k f fd ps (spX K mg Pr) ∧ mg x = some (.ref f) ∧ PySem.W.keepIn K (.ref f) = true ∧ Binds K fd ps []
/-- what a body may let out: what the caller's end has room for -/
def WD (mg : Str → Option Value) (Δ : Dx) : WX := fun cls d _ H => ∃ x g am F, Fin Δ am F H g ∧ XR mg F H x cls d ∧ Δ.XE x g am F H
/-! ### def __init__(self, y): self.f = y -/
def spIni (C : Addr) (fl : Str) : Sp := fun vs H Q _ => ∃ a v, vs = [.ref a, v] ∧ H a = some (exo a C none) ∧ ∀ dx, H dx = none → dx ≠ a → Q .non (upd (upd H dx (exd dx [(fl, v)])) a (exo a C (some dx)))
theorem ini_ok {P : Program} {w : World} {K : PySem.W.Frag} {mg : Str → Option Value} {base : Heap} {qual : Str} {st : Stmt} {f C : Addr} {fd : FuncData} {N ps : List Str} {fl : Str} (F : FunD K "__init__" qual (defArgs st) (defBody st) (defScope st) [] [] f fd)
    (S : FnScope N ps (defScope st)) (h2 : ps.length = 2) (T : OexC K C) (na : PySem.W.findIn K (.ref C) fl = some none)
    (hb : ∀ (cdv : Value) (A : Around) (outer : List Env) (s : Shared) (H : Hp) (E : XK), PSs (cxOf CX0 P w K mg base N qual (defScope st) f cdv A outer s H E).nox (defBody st) (tOst K fl (tVar 0) (tVar 1))) : FnOk P w K mg base CX0 1 f fd ps (spIni C fl) := by
  refine F.ok S (fun vs H Q E h => ?_) (fun cdv A outer s H vs Q E hr h => ⟨_, PSs.nox (hb cdv A outer s H E), ?_⟩)
  · obtain ⟨a, v, rfl, _⟩ := h
    exact h2.symm
  · obtain ⟨a, v, rfl, ha, q⟩ := h
    refine ⟨v, rfl, .ref a, rfl, a, C, rfl, T, na, .inl ⟨ha, fun dx n ne => q dx n ne⟩⟩
/-! ### raise C(e) -/
def rz (rs : List Rv) (k : Px → Prop) : Prop := match rs with
  | [.d p] => k p
  | _ => False
def sRaise (x fl : Str) (fr : WA) : WS := fun c _ X => fr c (fun rs c1 => rz rs fun p => X ⟨x, [(fl, p)]⟩ c1.g) X
section
variable {X : Cx} {Δ : Dx} {e : Expr} {es : List Expr} {fr : WA} {pos : Pos}
theorem ds_raise {x fl : Str} {C fI : Addr} {fd : FuncData} {ps : List Str} {p pos2 : Pos} (hc : X.calm = true) (tk : Takes X (WD X.mg Δ)) (T : XCls X.K C) (iC : PySem.W.findIn X.K (.ref C) "__init__" = some (some (.ref fI))) (tI : PySem.W.typeIn X.K (.ref fI) = some (.type "function"))
    (F1 : FnOk X.prog X.w X.K X.mg X.base CX0 1 fI fd ps (spIni C fl)) (hb : Binds X.K fd ps []) (hr : RoomG 2 X.A) (hg : Gl X x) (hm : X.mg x = some (.ref C)) (ha : PA X [e] (tA Δ fr))
    (hdb : (x == ("__debug__" : Str)) = false := by decide) (he : starEach [e] X.env = (false, eval e X.env) :: starEach [] X.env := by rfl) (hpl : (backTo pos (starEach [] X.env)).any (·.1) = false := by rfl) :
    PS X (.Raise (some (.Call (.Name x p) [e] [] pos)) none pos2) (tS Δ (sRaise x fl fr)) := by
  refine (ps_raise hc tk (pmk_oex (dvs := []) T.o iC tI F1 hr.toRoom hb .nil pass0 hg hm ha hdb he hpl)).imp fun D σ H ⟨am, F, c, P, XX, ok, hf, kf, kx⟩ => ?_
  refine ⟨am, F, c, _, XX, ok, hf, fun rs c1 F1 vs H1 p1 l1 o1 s1 => ?_, kx am⟩
  cases s1 with
  | nil => exact p1.elim
  | gen _ => exact p1.elim
  | scr _ _ => exact p1.elim
  | @d y v rs2 vs2 rv rest =>
    cases rest with
    | d _ _ => exact p1.elim
    | gen _ => exact p1.elim
    | scr _ _ => exact p1.elim
    | nil =>
      have p1 : XX ⟨x, [(fl, y)]⟩ c1.g := p1
      refine ⟨(by decide : (1 : Nat) ≤ 1000), fun a na => ⟨a, v, rfl, upd_same, fun dx nd ne => ⟨rfl, dx, [(fl, v)], upd_same, ?_, ?_, ?_⟩⟩⟩
      · rw [upd_ne ne, upd_same]
      · rw [upd_ne ne] at nd
        exact nd
      · rw [upd_ne ne] at nd
        have eH : upd (del (upd (upd (upd H1 a (exo a C none)) dx (exd dx [(fl, v)])) a (exo a C (some dx))) a) dx (.xd [(fl, v)]) = upd H1 dx (.xd [(fl, v)]) := by
          funext b
          by_cases hb : b = dx
          · rw [hb, upd_same, upd_same]
          · rw [upd_ne hb, upd_ne hb]
            by_cases hc : b = a
            · rw [hc, del_same, na]
            · rw [del_ne hc, upd_ne hc, upd_ne hb, upd_ne hc]
        rw [eH]
        have fin := (o1.alloc nd (.xd [(fl, v)])).fin
        refine ⟨⟨x, [(fl, y)]⟩, c1.g, am, F1, fin, ⟨C, dx, _, hm, rfl, rfl, upd_same, fun f q hq => ?_⟩, kx am _ _ _ _ p1 l1 fin⟩
        by_cases hf : f = fl
        · subst hf
          have : some y = some q := by
            rw [← hq]
            simp [List.lookup]
          cases this
          exact ⟨v, by simp [List.lookup], rv⟩
        · have h0 : (f == fl) = false := by simpa using hf
          have hq : ([(fl, y)] : List (Str × Px)).lookup f = some q := hq
          rw [List.lookup, h0] at hq
          cases hq
/-! ### a call that may raise -/
def eCallX (Pr : CnX) (f : WA) : WE := fun c P X => f c (fun rs c1 => Rv.gen ∉ rs ∧ Pr rs none (fun r _ => r ≠ .gen ∧ P r c1) fun x _ => X x c1.g) X
theorem Ok.on {am : Addr} {F : Hp} {σ : St} {H : Hp} {c : Cf} (k : Ok Δ am F σ H c) {g' : Option Nat} {am' : Addr} {F' H' : Hp} (l : Le F F') (fn : Fin (dx0 Δ.K am none F H) am' F' H' g') : Ok Δ am F' σ H' c :=
  (k.back (g := none) (r := .d .none) (v := .non) (.inl rfl) l fn .non (fun z => nomatch z)).1
theorem de_callX {k : Nat} {x : Str} {p : Pos} {Pr : CnX} (C : CalX X.prog X.w X.K X.mg X.base k x Pr) (tk : Takes X (WD X.mg Δ)) (hK : Δ.K = X.K) (hr : RoomG k X.A) (hg : Gl X x) (ha : PA X (e :: es) (tA Δ fr)) (hdb : (x == ("__debug__" : Str)) = false := by decide)
    (he : starEach (e :: es) X.env = (false, eval e X.env) :: starEach es X.env := by rfl) (hpl : (backTo pos (starEach es X.env)).any (·.1) = false := by rfl) :
    PE X (.Call (.Name x p) (e :: es) [] pos) (tE Δ (eCallX Pr fr)) := by
  obtain ⟨f, fd, ps, h1, h2, h3, h4⟩ := C.ex
  refine (pe_callX (E := fun cls d H => WD X.mg Δ cls d [] H) h1 hr hg h2 h3 h4 (passes_call tk fun _ _ _ _ h => h) ha hdb he hpl).imp fun σ H Q ⟨am, F, c, P, XX, ok, hf, kq, kx⟩ => ?_
  refine ⟨am, F, c, _, XX, ok, hf, fun rs c1 F1 vs H1 p1 l1 o1 s1 => ?_, kx⟩
  show spX X.K X.mg Pr (vs ++ []) H1 Q _
  rw [List.append_nil]
  refine ⟨am, F1, rs, none, _, _, o1.fh, o1.tbs hK, fun n z => (nomatch z), s1.to hK (fun _ => rfl), p1.2, fun r g' am' F' v H' pr l fn s => ?_, fun y g' am' F' H' cls d py l fn xr => ?_⟩
  · obtain ⟨o', s'⟩ := o1.back (g := none) (.inl rfl) l (hK ▸ fn) (hK ▸ s) pr.1
    exact kq r c1 F' v H' pr.2 (l1.trans l) o' s'
  · have fin := (o1.on l (hK ▸ fn)).fin
    exact ⟨y, c1.g, am, F', fin, xr, kx y c1.g F' H' py (l1.trans l) fin⟩
end
/-! ### a def that may raise -/
section
variable {P : Program} {w : World} {K : PySem.W.Frag} {mg : Str → Option Value} {base : Heap}
theorem def_okX {x qual : Str} {st : Stmt} {f : Addr} {fd : FuncData} {N ps : List Str} {k : Nat} {Pr : CnX} (nog : Bool) (F : FunD K x qual (defArgs st) (defBody st) (defScope st) [] [] f fd) (S : FnScope N ps (defScope st)) (hmg : mg x = some (.ref f)) (bi : Binds K fd ps [])
    (fw : WS) (len : ∀ rs g Q Z, Pr rs g Q Z → rs.length = ps.length) (hn : nog = true → ∀ rs g Q Z, Pr rs g Q Z → g = none) (spec : ∀ rs g Q Z, Pr rs g Q Z → fw (startC N.length rs g) (endP Q) Z)
    (hbody : ∀ (cdv : Value) (A : Around) (outer : List Env) (s : Shared) (H : Hp) (E : XK) (Δ : Dx), RoomG k (A.deeper (PyProof.Rows.envOfC qual (defScope st) s.heap.objs.size f cdv)) → Δ.K = K → (nog = true → Δ.a0 = none) →
      Takes (cxOf (L2.CX P w) P w K mg base N qual (defScope st) f cdv A outer s H E) (WD mg Δ) → PSs (cxOf (L2.CX P w) P w K mg base N qual (defScope st) f cdv A outer s H E) (defBody st) (tS Δ fw)) : CalX P w K mg base (k + 1) x Pr := by
  refine ⟨f, fd, ps, fnG_of F S (fun vs H Q E h => ?_) (fun cdv A outer s H vs Q E hr h => ?_), hmg, F.kp, bi⟩
  · obtain ⟨am, G, rs, g, q, z, _, _, _, h3, h4, _⟩ := h
    rw [← h3.length]
    exact len rs g q z h4
  · obtain ⟨am, G, rs, g, q, z, h1, ht, h2, h3, h4, h5, h6⟩ := h
    let Δ : Dx := { dx0 K am g G H with XE := fun y g' am' F' H' => ∀ cls d, XR mg F' H' y cls d → E cls d H' }
    have tk : Takes (cxOf (L2.CX P w) P w K mg base N qual (defScope st) f cdv A outer s H E) (WD mg Δ) :=
      (takes_of (E := E) rfl rfl rfl rfl).imp fun cls d σ H' ⟨y, g', am', F', fn, xr, ex⟩ => ex cls d xr
    have s0 := start_ok (N := N) h1 ht h2 h3
    have s1 : Ok Δ am G (L2.start N vs) H (startC N.length rs g) := ⟨s0.fh, s0.f0, s0.fr, s0.tb, s0.pr, s0.al, s0.gn, s0.len, s0.sv, s0.di⟩
    refine ⟨_, hbody cdv A outer s H E Δ hr rfl (fun e => by
      show g.map (fun _ => am) = none
      rw [hn e rs g q z h4]
      rfl) tk, am, G, _, _, _, s1, spec rs g q z h4, ⟨fun c am' F' σ' H' p l o => ?_, fun _ _ _ _ _ z => z.elim, fun _ _ _ _ _ z => z.elim, fun r g' am' F' H' v p l fn s => ?_⟩, fun am' y g' F' H' py l fn cls d xr => ?_⟩
    · have fn := o.fin
      exact h5 _ _ am' F' _ H' p l ⟨fn.fh, fn.f0, fn.fr, fn.tb, fn.pr, fn.al, fn.gn⟩ .non
    · exact h5 r g' am' F' v H' p l ⟨fn.fh, fn.f0, fn.fr, fn.tb, fn.pr, fn.al, fn.gn⟩ (by
        cases r with
        | d y => exact s
        | gen => exact s
        | scr ns => exact s
        | dic D => exact s
        | own xs => exact s)
    · exact h6 y g' am' F' H' cls d py l ⟨fn.fh, fn.f0, fn.fr, fn.tb, fn.pr, fn.al, fn.gn⟩ xr
end
end Dl
set_option Elab.async false
set_option maxRecDepth 100000
set_option linter.all false
set_option autoImplicit false
namespace Dl
open PySem L2 PySem.Spec PyProof.Rows
variable [TabF]
/-! ### try, with clauses that name what they catch -/
/-- a clause: the class, the slot of its name, what its suite does -/
abbrev Cla := Value × Nat × (Addr → Value → Option Addr → TS)
/-- the ends of a suite: the name goes -/
def endsA (D : Ends) (i : Nat) : Ends := { nx := fun τ G => D.nx (τ.set i none) G, rt := D.rt, bk := fun τ G => D.bk (τ.set i none) G, ct := fun τ G => D.ct (τ.set i none) G }
def wTry (K : PySem.W.Frag) (W0 : WX) (D : Ends) : List Cla → WX
  | [] => W0
  | (c, i, ts) :: more => fun cls d σ H => ∃ hit, PySem.W.exmOne K cls c = some hit ∧ (hit = true → ∀ a, H a = none → ts a cls d (endsA D i) (σ.set i (some (.ref a))) H) ∧ (hit = false → wTry K W0 D more cls d σ H)
inductive Clas (X : Cx) : List ExceptHandler → List Cla → Prop
  | nil : Clas X [] []
  | cons {x n : Str} {c : Value} {i : Nat} {ts : Addr → Value → Option Addr → TS} {first : Stmt} {suite : List Stmt} {np hpos : Pos} {hds : List ExceptHandler} {l : List Cla} (slot : X.N[i]? = some n) (loc : X.env.kindOf n = some .local) (nm : Names X x c)
      (run : ∀ (a : Addr) (o : Obj) (cls : Value) (d : Option Addr) (pn : List (Addr × Obj)), Zc cls d o → (∃ vs, o.data = .fields vs) → PSs (X.suite a ((a, o) :: pn)) (first :: suite) (ts a cls d)) (rest : Clas X hds l) :
      Clas X (.ExceptHandler (some (.Name x np)) (some n) (first :: suite) hpos :: hds) ((c, i, ts) :: l)
  | consN {x : Str} {c : Value} {i : Nat} {ts : Addr → Value → Option Addr → TS} {first : Stmt} {suite : List Stmt} {np hpos : Pos} {hds : List ExceptHandler} {l : List Cla} (far : X.N.length ≤ i) (nm : Names X x c)
      (run : ∀ (a : Addr) (o : Obj) (cls : Value) (d : Option Addr) (pn : List (Addr × Obj)), Zc cls d o → (∃ vs, o.data = .fields vs) → PSs (X.suite a ((a, o) :: pn)) (first :: suite) (ts a cls d)) (rest : Clas X hds l) :
      Clas X (.ExceptHandler (some (.Name x np)) none (first :: suite) hpos :: hds) ((c, i, ts) :: l)
section
variable {X : Cx} {body : List Stmt} {h1 : ExceptHandler} {hds : List ExceptHandler} {l : List Cla} {pos : Pos} {tb : WX → TS} {W0 : WX}
/-- what the clauses do with an exception that has landed -/
theorem run_clauses {pins : List (Addr × Obj)} {σ : L2.St} {H : Hp} {D : Ends} {a : Addr} {B : Heap} {cls : Value} {d : Option Addr} {sI s : Shared} {g : Heap} (stk : X.stack = X.env :: X.outer) (fr : X.env.frame = some X.env.locals) (nd : X.N.Nodup) (tk : Takes X W0) (good : X.Ok)
    (J : L2.Inv X pins σ H sI) (nb : ∀ b o, sI.heap.get? b = some o → b ∉ frs X.stack → B.get? b = some o) (fl : HandSPX.FlyingZ B (X.env :: X.outer) a (Zc cls d) g) (up : sI.heap.UpToSlots g) (os : s.os = sI.os) (ag : AllBare s.gens) (na : H a = none) :
    ∀ {hds : List ExceptHandler} {l : List Cla}, Clas X hds l → wTry X.K W0 D l cls d σ H → wpAny (model X.prog X.w) X.A (handleBy (.ref a) X.env hds) (SP X pins D) X.xe { s with heap := g } := by
  have frames : X.A.frames = some (X.env :: X.outer) := by rw [good.frames, stk]
  have inv : ∀ {g' : Heap}, HandSPX.FlyingZ B (X.env :: X.outer) a (Zc cls d) g' → sI.heap.UpToSlots g' → L2.Inv X pins σ H { s with heap := g' } := fun q u => J.landed nb q.1 u os ag
  have off : ∀ {g' : Heap}, HandSPX.FlyingZ B (X.env :: X.outer) a (Zc cls d) g' → ∃ o vs, g'.get? a = some o ∧ Zc cls d o ∧ o.data = .fields vs ∧ a ≠ X.env.locals ∧ a ∉ X.fs := fun {g'} q => by
    obtain ⟨o, vs, e1, e2, e3⟩ := q.there
    have far : a ∉ frs (X.env :: X.outer) := fun hm => by
      obtain ⟨_, o', e4, e5⟩ := q.2.2.1.mem hm
      rw [e1] at e4
      cases e4
      exact e5 _ e3
    refine ⟨o, vs, e1, e2, e3, fun z => far (List.mem_filterMap.mpr ⟨X.env, .head _, by rw [fr, z]⟩), fun hm => ?_⟩
    obtain ⟨x, hx, q⟩ := List.mem_filterMap.mp hm
    exact far (List.mem_filterMap.mpr ⟨x, .tail _ hx, q⟩)
  obtain ⟨o, vs, e1, e2, e3, n1, n2⟩ := off fl
  have suit := (inv fl up).suite e1 e3 na n1 n2
  intro hds l K
  induction K with
  | nil =>
    intro w
    refine wpAny_handleBy_nil ?_
    obtain ⟨k1, k2, k3, o', vs', t, ot, ts', he, hz, hd, hv, hr⟩ := id fl
    have on : wpAny (model X.prog X.w) X.A (setFlight (.ref a) X.env.frame) (fun _ s' => wpAny (model X.prog X.w) X.A (throw (.ref a) : Sem Flow) (SP X pins D) X.xe s') X.xe { s with heap := g } := by
      rw [fr]
      exact HandSPX.setFlight_upZ fl fun g' held up' => wpAny_throw (tk _ _ ⟨a, B, sI, pins, σ, H, cls, d, rfl, J, nb, up.trans up', .inr (.inr (by rw [stk]; exact held)), na, os, ag, w⟩)
    unfold PySem.passOn
    refine wpAny_bind (wpAny_field he hd hv ?_)
    rw [if_neg (by simp : ¬ ((Value.ref t == Value.none) = true))]
    first
      | exact wpAny_bind on
      | exact wpAny_bind (wpAny_pure (wpAny_bind on))
  | @cons x n c i ts first suite np hpos hds2 l2 slot loc nm run rest ih =>
    intro w
    obtain ⟨hit, hx, yes, no⟩ := w
    refine wpAny_handleBy_cons (codeAny_handlers_test ?_) (fun z => nomatch z)
    have ty : PySem.W.Looks (model X.prog X.w) g (typeOf (.ref a)) cls := fun _ _ _ _ k q => wpAny_typeOf_ref (k _ _ e1) (by rw [e2.1]; exact q)
    have got : ∀ {Q E : Value → Shared → Prop}, Q c { s with heap := g } → wpAny (model X.prog X.w) (X.A.mark (some (.ref a))) (eval (.Name x np) X.env) Q E { s with heap := g } := fun {Q E} q => by
      obtain ⟨gl, db, m | ⟨m, v, nn⟩⟩ := nm
      · exact ld_glob (X := X.suite a ((a, o) :: (X.pn ++ pins))) suit gl m q db
      · exact ld_blt (X := X.suite a ((a, o) :: (X.pn ++ pins))) suit gl m v q nn db
    refine got ((PySem.W.exm_one (M := model X.prog X.w) (inv fl up).kIn ty hx).here ?_)
    cases hit with
    | false => exact ih (no rfl)
    | true =>
      refine codeAny_handlers_suite_as (HandSPX.lands_againZ fl fun g2 fl2 up2 => ?_)
      obtain ⟨o2, vs2, f1, f2, f3, m1, m2⟩ := off fl2
      have suit2 := (inv fl2 (up.trans up2)).suite f1 f3 na m1 m2
      refine store_ok (v := .ref a) (X := X.suite a ((a, o2) :: (X.pn ++ pins))) suit2 nd slot (Or.inl loc) rfl (fun s5 S5 => ?_) (.inr loc)
      have gone : ∀ {σ6 : L2.St} {H6 : Hp} {s6 : Shared} {Q : Shared → Prop}, L2.Inv (X.suite a ((a, o2) :: (X.pn ++ pins))) [] σ6 H6 s6 → (∀ s7, L2.Inv X pins (σ6.set i none) H6 s7 → Q s7) →
          wpAny (model X.prog X.w) X.A (do bindName X.env n .none; unbindBehindTheSuite X.env n hpos) (fun _ s7 => Q s7) X.xe s6 := fun S6 q => gone_ok (S6.unsuite good) nd slot loc q
      refine wpAny_mono ((run a o2 cls d (X.pn ++ pins) f2 ⟨_, f3⟩).run [] s5 _ H _ S5 (yes rfl a na)) (fun fl6 s6 sp => ?_) (fun _ _ z => z.elim)
      match fl6, sp with
      | .next, ⟨_, _, S6, q6⟩ => exact gone S6 fun _ J7 => ⟨_, _, J7, q6⟩
      | .brk, ⟨_, _, S6, q6⟩ => exact gone S6 fun _ J7 => ⟨_, _, J7, q6⟩
      | .cont, ⟨_, _, S6, q6⟩ => exact gone S6 fun _ J7 => ⟨_, _, J7, q6⟩
      | .ret _, ⟨_, _, _, S6, r6, q6⟩ => exact gone S6 fun _ J7 => ⟨_, _, _, J7, r6, q6⟩
  | @consN x c i ts first suite np hpos hds2 l2 far nm run rest ih =>
    intro w
    obtain ⟨hit, hx, yes, no⟩ := w
    refine wpAny_handleBy_cons (codeAny_handlers_test ?_) (fun z => nomatch z)
    have ty : PySem.W.Looks (model X.prog X.w) g (typeOf (.ref a)) cls := fun _ _ _ _ k q => wpAny_typeOf_ref (k _ _ e1) (by rw [e2.1]; exact q)
    have got : ∀ {Q E : Value → Shared → Prop}, Q c { s with heap := g } → wpAny (model X.prog X.w) (X.A.mark (some (.ref a))) (eval (.Name x np) X.env) Q E { s with heap := g } := fun {Q E} q => by
      obtain ⟨gl, db, m | ⟨m, v, nn⟩⟩ := nm
      · exact ld_glob (X := X.suite a ((a, o) :: (X.pn ++ pins))) suit gl m q db
      · exact ld_blt (X := X.suite a ((a, o) :: (X.pn ++ pins))) suit gl m v q nn db
    refine got ((PySem.W.exm_one (M := model X.prog X.w) (inv fl up).kIn ty hx).here ?_)
    cases hit with
    | false => exact ih (no rfl)
    | true =>
      refine codeAny_handlers_suite (HandSPX.lands_againZ fl fun g2 fl2 up2 => ?_)
      obtain ⟨o2, vs2, f1, f2, f3, m1, m2⟩ := off fl2
      have suit2 := (inv fl2 (up.trans up2)).suite f1 f3 na m1 m2
      have keep : ∀ {τ : L2.St} {u : Option V}, τ.length = X.N.length → τ.set i u = τ := fun {τ u} e => List.set_eq_of_length_le (by rw [e]; exact far)
      have y1 := yes rfl a na
      rw [keep J.len] at y1
      refine wpAny_mono ((run a o2 cls d (X.pn ++ pins) f2 ⟨_, f3⟩).run [] _ _ H _ suit2 y1) (fun fl6 s6 sp => ?_) (fun _ _ z => z.elim)
      match fl6, sp with
      | .next, ⟨σ6, _, S6, q6⟩ => exact ⟨_, _, S6.unsuite good, by have q6 : D.nx (σ6.set i none) _ := q6; rw [keep S6.len] at q6; exact q6⟩
      | .brk, ⟨σ6, _, S6, q6⟩ => exact ⟨_, _, S6.unsuite good, by have q6 : D.bk (σ6.set i none) _ := q6; rw [keep S6.len] at q6; exact q6⟩
      | .cont, ⟨σ6, _, S6, q6⟩ => exact ⟨_, _, S6.unsuite good, by have q6 : D.ct (σ6.set i none) _ := q6; rw [keep S6.len] at q6; exact q6⟩
      | .ret _, ⟨_, _, _, S6, r6, q6⟩ => exact ⟨_, _, _, S6.unsuite good, r6, q6⟩
theorem ps_tryA (stk : X.stack = X.env :: X.outer) (fr : X.env.frame = some X.env.locals) (nd : X.N.Nodup) (tk : Takes X W0)
    (hb : ∀ (W : WX) (pn : List (Addr × Obj)) (xe : Value → Shared → Prop), Takes (X.tr pn xe) W → PSs (X.tr pn xe) body (tb W))
    (hh : Clas X (h1 :: hds) l) : PS X (.Try body (h1 :: hds) [] [] pos) (fun D σ H => tb (wTry X.K W0 D l) D σ H) := by
  refine ⟨fun pins s σ H D I h => ?_⟩
  have good := I.ok
  have frames : X.A.frames = some (X.env :: X.outer) := by rw [good.frames, stk]
  have caught : ∀ e s', XE (X.tr (X.pn ++ pins) fun _ _ => False) (wTry X.K W0 D l) e s' → wpAny (model X.prog X.w) X.A (noteFrame e X.env) (fun _ s₂ => wpAny (model X.prog X.w) X.A (setFlight e none) (fun _ s₃ =>
      wpAny (model X.prog X.w) X.A (handleBy e X.env (h1 :: hds)) (SP X pins D) X.xe s₃) X.xe s₂) X.xe s' := by
    rintro _ s' ⟨a, B, sI, pins', σ', H', cls, d, rfl, J, nb, up, sky, na, os, ag, w⟩
    have J' : L2.Inv X pins σ' H' sI := J.ofTry good
    have sky' : Sky B (X.env :: X.outer) a (Zc cls d) X.env.locals s'.heap := stk ▸ sky
    exact Sky.land Zc.steady frames fr sky' fun g fl up' => run_clauses stk fr nd tk good J' nb fl (up.trans up') os ag na hh w
  refine wpAny_Try_except (wpAny_mono ((hb (wTry X.K W0 D l) (X.pn ++ pins) (fun e s' => wpAny (model X.prog X.w) X.A (noteFrame e X.env) (fun _ s₂ => wpAny (model X.prog X.w) X.A (setFlight e none) (fun _ s₃ =>
    wpAny (model X.prog X.w) X.A (handleBy e X.env (h1 :: hds)) (SP X pins D) X.xe s₃) X.xe s₂) X.xe s') (fun e s' x => caught e s' ?_)).run [] s σ H D (I.toTry _) h) (fun f s1 sp => ?_) (fun _ _ z => z))
  · obtain ⟨a, B, sI, pins', σ', H', cls, d, eq, J, more⟩ := x
    exact ⟨a, B, sI, pins', σ', H', cls, d, eq, ⟨J.ok.ofTry.toTry _ _, J.os, J.bare, J.base, J.loc, J.cell, J.free, J.freeC, J.pin, J.hok, J.len⟩, more⟩
  · match f, sp with
    | .next, ⟨_, _, J, q⟩ => exact wpAny_execs_nil ⟨_, _, J.ofTry good, q⟩
    | .brk, ⟨_, _, J, q⟩ => exact ⟨_, _, J.ofTry good, q⟩
    | .cont, ⟨_, _, J, q⟩ => exact ⟨_, _, J.ofTry good, q⟩
    | .ret _, ⟨_, _, _, J, r, q⟩ => exact ⟨_, _, _, J.ofTry good, r, q⟩
end
end Dl
set_option Elab.async false
set_option maxRecDepth 100000
set_option linter.all false
set_option autoImplicit false
namespace Dl
open PySem L2
variable [TabF]
/-! ### try: NAME = f(..), and clauses `except C as e: NAME = e.field` -/
section
variable {X : Cx} {Δ : Dx}
theorem Ok.drop {am : Addr} {F : Hp} {σ : L2.St} {H : Hp} {c : Cf} (k : Ok Δ am F σ H c) (i : Nat) (o : Option V) : Ok Δ am F (σ.set i o) H ⟨c.env.set i none, c.g⟩ where
  fh := k.fh
  f0 := k.f0
  fr := k.fr
  tb := k.tb
  pr := k.pr
  al := k.al
  gn := k.gn
  len := by
    show (σ.set i o).length = (c.env.set i none).length
    rw [List.length_set, List.length_set]
    exact k.len
  sv := fun j r e => by
    have e : (c.env.set i none)[j]? = some (some r) := e
    by_cases h : i = j
    · subst h
      rw [List.getElem?_set] at e
      simp only [if_true] at e
      split at e <;> cases e
    · rw [List.getElem?_set_ne h] at e
      rw [List.getElem?_set_ne h]
      exact k.sv j r e
  di := fun a b xs ys n e1 e2 m1 m2 => by
    have e1 : (c.env.set i none)[a]? = some (some xs) := e1
    have e2 : (c.env.set i none)[b]? = some (some ys) := e2
    have key : ∀ {j : Nat} {r : Rv}, (c.env.set i none)[j]? = some (some r) → i ≠ j ∧ c.env[j]? = some (some r) := fun {j r} e => by
      by_cases h : i = j
      · subst h
        rw [List.getElem?_set] at e
        simp only [if_true] at e
        split at e <;> cases e
      · rw [List.getElem?_set_ne h] at e
        exact ⟨h, e⟩
    obtain ⟨n1, e1⟩ := key e1
    obtain ⟨n2, e2⟩ := key e2
    rw [List.getElem?_set_ne n1, List.getElem?_set_ne n2]
    exact k.di a b xs ys n e1 e2 m1 m2
theorem takes_no : Takes X (fun _ _ _ _ => False) := fun _ _ h => by
  obtain ⟨_, _, _, _, _, _, _, _, _, _, _, _, _, _, _, _, w⟩ := h
  exact w.elim
structure Hnd where
  cls : Str
  ie : Nat
  act : Option (Nat × Str)
/-- what a clause's suite does: C the class's address -/
def claT (C : Addr) (h : Hnd) : Addr → Value → Option Addr → TS := fun a cls d => match h.act with
  | none => fun _ _ _ => False
  | some (j, fl) => tAsg (tXf a cls d C fl (tVar h.ie)) (gName j)
end
/-! ### what a def wants to know of the classes that it raises and catches -/
structure XKit (P : Program) (w : World) (K : PySem.W.Frag) (mg : Str → Option Value) (base : Heap) (x fl : Str) (C : Addr) : Prop where
  g : mg x = some (.ref C)
  c : XCls K C
  na : PySem.W.findIn K (.ref C) fl = some none
  ini : ∃ (fI : Addr) (fd : FuncData) (ps : List Str), PySem.W.findIn K (.ref C) "__init__" = some (some (.ref fI)) ∧ PySem.W.typeIn K (.ref fI) = some (.type "function") ∧ FnOk P w K mg base CX0 1 fI fd ps (spIni C fl) ∧ Binds K fd ps []
theorem xkit_of {P : Program} {w : World} {K : PySem.W.Frag} {mg : Str → Option Value} {base : Heap} {x fl : Str} {C fI : Addr} {fd : FuncData} {ps : List Str} (g : mg x = some (.ref C)) (c : xcB K C = true) (na : PySem.W.findIn K (.ref C) fl = some none) (m : Meth K C "__init__" fI)
    (ok : OexC K C → FnOk P w K mg base CX0 1 fI fd ps (spIni C fl)) (b : Binds K fd ps []) : XKit P w K mg base x fl C :=
  ⟨g, xc_of c, na, fI, fd, ps, m.at_, by have h := m.fn; unfold PySem.W.isFn at h; exact beq_iff_eq.mp h, ok (xc_of c).o, b⟩
section
variable {X : Cx} {Δ : Dx} {e : Expr} {fr : WA} {pos : Pos}
theorem ds_raiseK {x fl : Str} {C : Addr} {p pos2 : Pos} (kit : XKit X.prog X.w X.K X.mg X.base x fl C) (hc : X.calm = true) (tk : Takes X (WD X.mg Δ)) (hr : RoomG 2 X.A) (hg : Gl X x) (ha : PA X [e] (tA Δ fr))
    (hdb : (x == ("__debug__" : Str)) = false := by decide) (he : starEach [e] X.env = (false, eval e X.env) :: starEach [] X.env := by rfl) (hpl : (backTo pos (starEach [] X.env)).any (·.1) = false := by rfl) :
    PS X (.Raise (some (.Call (.Name x p) [e] [] pos)) none pos2) (tS Δ (sRaise x fl fr)) := by
  obtain ⟨fI, fd, ps, h1, h2, h3, h4⟩ := kit.ini
  exact ds_raise hc tk kit.c h1 h2 h3 h4 hr hg kit.g ha hdb he hpl
theorem names_of {x fl : Str} {C : Addr} (kit : XKit X.prog X.w X.K X.mg X.base x fl C) (hg : Gl X x) (hdb : (x == ("__debug__" : Str)) = false := by decide) : Names X x (.ref C) := ⟨hg, hdb, .inl kit.g⟩
end
end Dl
set_option Elab.async false
set_option maxRecDepth 100000
set_option linter.all false
set_option autoImplicit false
namespace Dl
open PySem L2
variable [TabF]
/-! ### x, y, z = [..], d, [..]: the lists stay the names' own -/
def rd (r : Rv) (k : Px → Prop) : Prop := match r with
  | .d y => k y
  | _ => False
end Dl
set_option Elab.async false
set_option maxRecDepth 100000
set_option linter.all false
set_option autoImplicit false
namespace Dl
open PySem L2
variable [TabF]
/-! ### range(i, j, -1) -/
def dnX (hi : Int) : Nat → List Px
  | 0 => []
  | n + 1 => .int hi :: dnX (hi - 1) n
def iRg3 (f : WA) : WI := fun c P X => f c (fun rs c1 => match rs with
  | [.d (.int i), .d (.int j), .d (.int k)] => k = -1 ∧ smI i ∧ smI j ∧ P (dnX i (i - j).toNat) c1
  | _ => False) X
section
open PySem.Spec PyProof.Rows
variable {X : Cx} {Δ : Dx} {a b e : Expr} {fa fb : WE} {pos p2 : Pos}
/-! ### xs[::-1], a list -/
def revLD (x : Px) (k : Rv → Prop) : Prop := match x with
  | .list xs => k (.own xs.reverse)
  | _ => False
def eRevL (fa : WE) : WE := fun c P X => fa c (fun r1 c1 => asD r1 fun x => revLD x fun r => P r c1) X
theorem revLD_l {xs : List Px} {k : Rv → Prop} : revLD (.list xs) k = k (.own xs.reverse) := rfl
theorem de_revL {k : Nat} {p1 q2 p3 : Pos} (ha : PE X a (tE Δ fa)) (hK : Δ.K = X.K) : PE X (.Subscript a (.Slice none none (some (.UnaryOp .USub (.Constant (.int 1) k p1) q2)) p3) pos) (tE Δ (eRevL fa)) := by
  refine (pe_revL ha).imp fun σ H Q ⟨am, F, c, P, XX, ok, hf, kq, kx⟩ => ?_
  refine ⟨am, F, c, _, XX, ok, hf, fun r1 c1 F1 v1 H1 p1 l1 o1 s1 => ?_, kx⟩
  obtain ⟨x, F1', hx, l1', o1', rp1⟩ := s1.data o1 p1
  unfold revLD at hx
  split at hx
  · cases rp1 with
    | lst e1 r1 =>
      refine ⟨_, _, rfl, SqL.of (o1'.fh _ _ e1), fun p hp => ?_⟩
      obtain ⟨o', rs'⟩ := Rs.fresh o1' hp r1.rev
      exact kq _ c1 _ _ _ hx (l1.trans l1') o' rs'
  · exact hx.elim
/-- an item of a list, by values -/
def rGetM (K : PySem.W.Frag) : V → V → Hp → VK → Prop := fun o i H Q => ∃ p xs k v, o = .ref p ∧ i = .int k ∧ SqL K H p xs ∧ k < 0 ∧ -(xs.length : Int) ≤ k ∧ xs[(k + (xs.length : Int)).toNat]? = some v ∧ Q v H
theorem pget_listM : PGet X (rGetM X.K) := by
  intro pins s σ H o i ov iv Q I ro ri h
  obtain ⟨p, xs, k, v, rfl, rfl, hq, h0, h1, he, q⟩ := h
  cases ro
  obtain ⟨t, rfl⟩ := ri
  obtain ⟨its, r, pl, hz⟩ := I.list hq
  obtain ⟨w, ew, rw'⟩ := r.get he
  have hl := r.length
  have hn := line63
  exact wpAny_getItem_list_neg pl.isList h0 (by rw [List.size_toArray]; omega) (by omega) (by rw [List.size_toArray, ← hl]; simpa using ew) ⟨v, H, I, rw', q⟩
/-- name[i] op= e, over ints -/
def itM (xs : List Px) (k : Int) (f : Int → Prop) : Prop := k < 0 ∧ -(xs.length : Int) ≤ k ∧ match xs[(k + (xs.length : Int)).toNat]? with
  | some (.int z) => f z
  | _ => False
def sSetIM (i : Nat) (o : Int → Int → Int) (fi fe : WE) : WS := fun c P X => isOwn c i ∧ fi c (fun r c1 => asD r fun x => match x with
  | .int k => ownD c1 i fun xs => itM xs k fun z => fe c1 (fun r2 c2 => asD r2 fun y => match y with
    | .int d => ownD c2 i fun ys => (match ixN ys.length k with
      | some j => P (.nx (putE c2 i (.own (ys.set j (.int (o z d))))))
      | none => False)
    | _ => False) X
  | _ => False) X
theorem ds_setIM (i : Nat) {x : Str} {p : Pos} {op : Operator} {o : Int → Int → Int} (hb : PE X b (tE Δ fb)) (ha : PE X a (tE Δ fa)) (ho : PIp X op (ipI o)) (hN : X.N[i]? = some x := by rfl)
    (hv : Vis X.env.scope x := by first | exact Or.inl rfl | exact Or.inr (Or.inl rfl) | exact Or.inr (Or.inr rfl)) (hd : (x == ("__debug__" : Str)) = false := by decide)
    (hcd : (x == ("__classdict__" : Str)) = false := by decide)
    (ha' : ∀ ov iv new, augStore b ov iv new = (do holding [new, ov, iv] (setItem ov iv new); release [new, ov, iv] []; pure .next) := by intros; rfl) : PS X (.AugAssign (.Subscript (.Name x p) b p2) op a pos) (tS Δ (sSetIM i o fb fa)) := by
  refine (ps_augS (pv i hN hv hd hcd) hb pget_listM ha ho set_list ha').imp fun D σ H ⟨am, F, c, P, XX, ok, ⟨ho, hf⟩, kf, kx⟩ => ?_
  obtain ⟨a0, vs, xs, _, e0, g1, g2, _⟩ := ok.mine ho
  refine ⟨_, g1, am, F, c, _, XX, ok, hf, fun r c1 F1 v1 H1 p1 l1 o1 s1 => ?_, kx am⟩
  obtain ⟨y, F2, hy, l2, o2, ry⟩ := s1.data o1 p1
  split at hy
  · rename_i k
    cases ry
    obtain ⟨a', us, ys, q, e1, k1, k2, k3, k4, k5⟩ := o2.mine hy
    rw [g1] at k1
    cases k1
    obtain ⟨h0, h1, q⟩ := q
    split at q
    · rename_i z ez
      obtain ⟨v, ev, rv⟩ := k5.get ez
      cases rv
      refine ⟨_, _, _, _, rfl, rfl, SqL.of k2, h0, (by rw [k5.length]; exact h1), (by rw [k5.length]; exact ev), am, F2, c1, _, XX, o2, q, fun r3 c3 F3 v3 H3 p3 l3 o3 s3 => ?_, (kx am).le (l1.trans l2)⟩
      obtain ⟨y4, F4, hy4, l4, o4, ry4⟩ := s3.data o3 p3
      split at hy4
      · cases ry4
        refine ⟨_, _, rfl, rfl, ?_⟩
        obtain ⟨a5, us5, ys5, q5, e5, m1, m2, m3, m4, m5⟩ := o4.mine hy4
        rw [g1] at m1
        cases m1
        split at q5
        · rename_i j ej
          exact ⟨a0, us5, _, j, rfl, rfl, m2, (by rw [m5.length]; exact ej), kf.1 _ am F4 σ _ q5 (((l1.trans l2).trans l3).trans l4) (o4.mutate e5 g1 m2 m3 m4 (m5.set (.int _) j))⟩
        · exact q5.elim
      · exact hy4.elim
    · exact q.elim
  · exact hy.elim
theorem sSetIM_eq {i : Nat} {o : Int → Int → Int} {fi fe : WE} {c : Cf} {P : Fl → Prop} {XX : XP} : sSetIM i o fi fe c P XX = (isOwn c i ∧ fi c (fun r c1 => asI r fun k => ownD c1 i fun xs => itM xs k fun z => fe c1 (fun r2 c2 => asI r2 fun d => ownD c2 i fun ys => ∃ j, ixN ys.length k = some j ∧ P (.nx (putE c2 i (.own (ys.set j (.int (o z d))))))) XX) XX) := by
  have hI : ∀ (r : Rv) (g : Int → Prop), (asD r fun x => match x with
      | .int k => g k
      | _ => False) = asI r g := fun r g => by
    cases r with
    | d x => cases x <;> rfl
    | own xs => rfl
    | gen => rfl
    | scr ns => rfl
    | dic D => rfl
  unfold sSetIM
  congr 2
  funext r c1
  refine (hI r _).trans ?_
  congr 1
  funext k
  congr 1
  funext xs
  congr 1
  funext z
  congr 1
  funext r2 c2
  refine (hI r2 _).trans ?_
  congr 1
  funext d
  congr 1
  funext ys
  apply propext
  constructor
  · intro h
    split at h
    · rename_i j ej
      exact ⟨j, ej, h⟩
    · exact h.elim
  · rintro ⟨j, ej, h⟩
    rw [ej]
    exact h
theorem itM_last {ns : List Int} {z : Int} {f : Int → Prop} (hf : f z) : itM ((ns ++ [z]).map .int) (-1) f := by
  refine ⟨by decide, by simp; omega, ?_⟩
  rw [show (-1 + (((ns ++ [z]).map PyData.int).length : Int)).toNat = ns.length by simp; omega]
  rw [List.getElem?_map, List.getElem?_concat_length]
  exact hf
theorem ixN_last {n : Nat} : ixN (n + 1) (-1) = some n := by
  unfold ixN
  simp
  omega
end
/-! ### zip of two tuples -/
def iZpT (f : WA) : WI := fun c P X => f c (fun rs c1 => match rs with
  | [.d (.tuple xs), .d (.tuple ys)] => P (zipX xs ys) c1
  | _ => False) X
end Dl
set_option Elab.async false
set_option maxRecDepth 100000
set_option linter.all false
set_option autoImplicit false
namespace Dl
open PySem PySem.Spec PyProof.Rows L2
variable [TabF]
/-! ### dicts with int keys that a name holds -/
def lookD (kvs : List (Int × Px)) (k : Int) : Option Px := (kvs.find? fun p => decide (p.1 = k)).map (·.2)
def putD (kvs : List (Int × Px)) (k : Int) (y : Px) : List (Int × Px) :=
  if (kvs.any fun p => decide (p.1 = k)) = true then kvs.map (fun p => if p.1 = k then (p.1, y) else p) else kvs ++ [(k, y)]
theorem RpK.length {F : Hp} : ∀ {ws : List (Key × V)} {kvs : List (Int × Px)}, RpK F ws kvs → ws.length = kvs.length
  | _, _, .nil => rfl
  | _, _, .cons _ b => congrArg (· + 1) (RpK.length b)
theorem RpK.look {F : Hp} {k : Int} : ∀ {ws : List (Key × V)} {kvs : List (Int × Px)}, RpK F ws kvs → (∀ y, lookD kvs k = some y → ∃ v, valV ws (.inl k : Key) = some v ∧ Rp F v y) ∧ (lookD kvs k = none → valV ws (.inl k : Key) = none)
  | _, _, .nil => ⟨fun y h => (nomatch h), fun _ => rfl⟩
  | _, _, .cons (k := j) (v := v) (d := d) (ws := ws) (kvs := kvs) a b => by
    by_cases e : j = k
    · subst e
      have h1 : lookD ((j, d) :: kvs) j = some d := by simp [lookD]
      have h2 : valV (((Sum.inl j : Key), v) :: ws) (Sum.inl j : Key) = some v := valV_pos rfl
      exact ⟨fun y h => ⟨v, h2, by rw [h1] at h; cases h; exact a⟩, fun h => by rw [h1] at h; cases h⟩
    · have h1 : lookD ((j, d) :: kvs) k = lookD kvs k := by simp [lookD, e]
      have h2 : valV (((Sum.inl j : Key), v) :: ws) (Sum.inl k : Key) = valV ws (Sum.inl k : Key) := valV_neg fun z => e (Sum.inl.inj z)
      rw [h1, h2]
      exact b.look
theorem RpK.any {F : Hp} {k : Int} : ∀ {ws : List (Key × V)} {kvs : List (Int × Px)}, RpK F ws kvs → (ws.any fun p => decide (p.1 = (Sum.inl k : Key))) = kvs.any fun p => decide (p.1 = k)
  | _, _, .nil => rfl
  | _, _, .cons (k := j) _ b => by
    rw [List.any_cons, List.any_cons, b.any]
    congr 1
    by_cases e : j = k
    · subst e; simp
    · simp [e]
theorem RpK.append {F : Hp} {k : Int} {v : V} {y : Px} (r : Rp F v y) : ∀ {ws : List (Key × V)} {kvs : List (Int × Px)}, RpK F ws kvs → RpK F (ws ++ [((.inl k : Key), v)]) (kvs ++ [(k, y)])
  | _, _, .nil => .cons r .nil
  | _, _, .cons a b => .cons a (b.append r)
theorem RpK.set {F : Hp} {k : Int} {v : V} {y : Px} (r : Rp F v y) : ∀ {ws : List (Key × V)} {kvs : List (Int × Px)}, RpK F ws kvs → RpK F (ws.map fun p => if p.1 = (.inl k : Key) then (p.1, v) else p) (kvs.map fun p => if p.1 = k then (p.1, y) else p)
  | _, _, .nil => .nil
  | _, _, .cons (k := j) a b => by
    rw [List.map_cons, List.map_cons]
    by_cases e : j = k
    · subst e
      rw [if_pos rfl, if_pos rfl]
      exact .cons r (b.set r)
    · rw [if_neg (fun z => e (Sum.inl.inj z)), if_neg e]
      exact .cons a (b.set r)
theorem RpK.put {F : Hp} {k : Int} {v : V} {y : Px} {ws : List (Key × V)} {kvs : List (Int × Px)} (h : RpK F ws kvs) (r : Rp F v y) : RpK F (putK ws (.inl k : Key) v) (putD kvs k y) := by
  unfold putK putD
  rw [h.any]
  split
  · exact h.set r
  · exact h.append r
def dicD (c : Cf) (i : Nat) (k : List (Int × Px) → Prop) : Prop := match c.env[i]? with
  | some (some (.dic (.k kvs))) => k kvs
  | _ => False
def slotDc (o : Option (Option Rv)) (k : List (Int × Px) → Prop) : Prop := match o with
  | some (some (.dic (.k kvs))) => k kvs
  | _ => False
theorem dicD_eq {c : Cf} {i : Nat} {k : List (Int × Px) → Prop} : dicD c i k = slotDc c.env[i]? k := rfl
theorem slotDc_k {kvs : List (Int × Px)} {k : List (Int × Px) → Prop} : slotDc (some (some (.dic (.k kvs)))) k = k kvs := rfl
def dicR (r : Rv) (k : List (Int × Px) → Prop) : Prop := match r with
  | .dic (.k kvs) => k kvs
  | _ => False
theorem dicR_k {kvs : List (Int × Px)} {k : List (Int × Px) → Prop} : dicR (.dic (.k kvs)) k = k kvs := rfl
def hdX (xs : List Px) (k : Px → List Px → Prop) : Prop := match xs with
  | y :: ys => k y ys
  | [] => False
theorem hdX_c {y : Px} {ys : List Px} {k : Px → List Px → Prop} : hdX (y :: ys) k = k y ys := rfl
def isDic (c : Cf) (i : Nat) : Prop := dicD c i fun _ => True
section
variable {Δ : Dx} {am : Addr} {F : Hp} {σ : L2.St} {H : Hp} {c : Cf}
theorem Ok.mineD (k : Ok Δ am F σ H c) {i : Nat} {q : List (Int × Px) → Prop} (h : dicD c i q) :
    ∃ a ws kvs, q kvs ∧ c.env[i]? = some (some (.dic (.k kvs))) ∧ σ[i]? = some (some (.ref a)) ∧ H a = some (.dK ws) ∧ F a = none ∧ Δ.H0 a = none ∧ RpK F ws kvs := by
  unfold dicD at h
  split at h
  · rename_i kvs e
    obtain ⟨v, h1, a, o, e1, e2, e3, e4, ws, e5, e6⟩ := k.sv i _ e
    subst e1
    subst e5
    exact ⟨a, ws, kvs, h, e, h1, e2, e3, e4, e6⟩
  · exact h.elim
/-- an object without a name, changed -/
theorem Ok.chgO {p : Addr} {o o' : HO} (k : Ok Δ am F σ H c) (h : H p = some o) (nt' : ∀ ps, o' ≠ .tbl ps) (ho : ∃ ws, o = .dK ws) (hg : ∀ n, c.g = some n → am ≠ p) (hf : F p = none) (h0 : Δ.H0 p = none) (no : ∀ (i : Nat) (r : Rv), c.env[i]? = some (some r) → r.mu → σ[i]? ≠ some (some (.ref p))) :
    Ok Δ am F σ (upd H p o') c where
  fh := fun b o e => by rw [upd_ne (fun q => by rw [q, hf] at e; cases e)]; exact k.fh b o e
  f0 := k.f0
  fr := k.fr
  tb := by
    obtain ⟨ws, rfl⟩ := ho
    exact k.tb.dK h
  pr := fun b o e n => by rw [upd_ne (ne_of_none e h0)]; exact k.pr b o e n
  al := fun b e => ⟨(k.al b e).1.upd nt', (k.al b e).2⟩
  gn := fun n e => by
    obtain ⟨h1, h2, h3⟩ := k.gn n e
    have ne := hg n e
    obtain ⟨l, s, sp, ac, ns, h4, h5⟩ := h3
    exact ⟨h1, h2, l, s, sp, ac, ns, by rw [upd_ne ne]; exact h4, h5⟩
  len := k.len
  sv := fun i r e => by
    obtain ⟨v, h1, h2⟩ := k.sv i r e
    refine ⟨v, h1, ?_⟩
    cases r with
    | d x => exact h2
    | gen => exact h2
    | scr ns => exact h2
    | own xs =>
      obtain ⟨a, us, e1, e2, e3⟩ := h2
      subst e1
      exact ⟨a, us, rfl, by rw [upd_ne (show a ≠ p from fun z => no i _ e True.intro (by rw [h1, z]))]; exact e2, e3⟩
    | dic D =>
      obtain ⟨a, us, e1, e2, e3⟩ := h2
      subst e1
      exact ⟨a, us, rfl, by rw [upd_ne (show a ≠ p from fun z => no i _ e True.intro (by rw [h1, z]))]; exact e2, e3⟩
  di := k.di
theorem Ok.ngD {a : Addr} {D : Dic} {o : HO} (k : Ok Δ am F σ H c) (h : H a = some o) (r : DicR F D o) : ∀ n, c.g = some n → am ≠ a := fun n e => ((k.gn n e).2.2.neD h r).symm
theorem Ok.mutateD (k : Ok Δ am F σ H c) {i : Nat} {a : Addr} {ws us : List (Key × V)} {kvs kvs' : List (Int × Px)} (e : c.env[i]? = some (some (.dic (.k kvs)))) (h1 : σ[i]? = some (some (.ref a))) (h2 : H a = some (.dK ws)) (h3 : F a = none) (h4 : Δ.H0 a = none) (r0 : RpK F ws kvs) (r : RpK F us kvs') :
    Ok Δ am F σ (upd H a (.dK us)) (putE c i (.dic (.k kvs'))) := by
  have no : ∀ (j : Nat) (zs : Rv), j ≠ i → c.env[j]? = some (some zs) → zs.mu → σ[j]? ≠ some (some (.ref a)) := fun j zs n p mu z => k.di j i zs _ n p e mu True.intro (z.trans h1.symm)
  have k1 : Ok Δ am F σ H { c with env := c.env.set i none } := ⟨k.fh, k.f0, k.fr, k.tb, k.pr, k.al, k.gn, by simpa using k.len, fun j r e => by
      rw [env_get] at e
      split at e
      · cases e
      · exact k.sv j r e, fun j l ys zs n p q => by
      rw [env_get] at p q
      split at p
      · cases p
      · split at q
        · cases q
        · exact k.di j l ys zs n p q⟩
  have hi : i < c.env.length := (List.getElem?_eq_some_iff.mp e).1
  have no' : ∀ (j : Nat) (zs : Rv), (c.env.set i none)[j]? = some (some zs) → zs.mu → σ[j]? ≠ some (some (.ref a)) := fun j zs p => by
    rw [env_get] at p
    split at p
    · cases p
    · rename_i q
      exact no j zs (fun z => q ⟨z, hi⟩) p
  have k2 := (k1.chgO (o' := .dK us) h2 dK_ok.1 ⟨_, rfl⟩ (fun n e => k.ngD (D := .k kvs) h2 ⟨ws, rfl, r0⟩ n e) h3 h4 no').put (r := .dic (.k kvs')) (v := .ref a) ⟨⟨a, _, rfl, upd_same, h3, h4, us, rfl, r⟩, fun _ j zs p => no' j zs p⟩ i
  rw [set_self h1] at k2
  have : putE c i (.dic (.k kvs')) = { c with env := (c.env.set i none).set i (some (.dic (.k kvs'))) } := by
    unfold putE
    rw [List.set_set]
  rw [this]
  exact k2
end
section
variable {X : Cx} {Δ : Dx} {a b e e1 e2 : Expr} {fa fb f1 f2 : WE} {pos : Pos} {x : Str} {p p2 : Pos}
/-- {k: v} -/
def eDisp1 (f1 f2 : WE) : WE := fun c P X => f1 c (fun r1 c1 => asI r1 fun i => f2 c1 (fun r2 c2 => asD r2 fun y => P (.dic (.k [(i, y)])) c2) X) X
theorem asI_of {r : Rv} {k : Int → Prop} (h : asI r k) : ∃ i, r = .d (.int i) ∧ k i := by
  unfold asI at h
  split at h
  · exact ⟨_, rfl, h⟩
  · exact h.elim
theorem de_disp1 (h1 : ∀ Δ' : Dx, Δ'.K = Δ.K → PE X e1 (tE Δ' f1)) (h2 : ∀ Δ' : Dx, Δ'.K = Δ.K → PE X e2 (tE Δ' f2)) : PE X (.Dict [some e1] [e2] pos) (tE Δ (eDisp1 f1 f2)) := by
  let t1 : TE := fun σ H Q => ∃ Δ' : Dx, Δ'.K = Δ.K ∧ tE Δ' f1 σ H Q
  let t2 : TE := fun σ H Q => ∃ Δ' : Dx, Δ'.K = Δ.K ∧ tE Δ' f2 σ H Q
  have g1 : PE X e1 t1 := ⟨fun pins s σ H Q I ⟨Δ', e, h⟩ => (h1 Δ' e).run pins s σ H Q I h⟩
  have g2 : PE X e2 t2 := ⟨fun pins s σ H Q I ⟨Δ', e, h⟩ => (h2 Δ' e).run pins s σ H Q I h⟩
  refine (pe_disp (pps_cons g1 g2 pps_nil |> fun h => h) rfl rfl (fun z => nomatch z) (show 1 ≤ 15 by decide)).imp fun σ H Q ⟨am, F, c, P, XX, ok, hf, kq, kx⟩ => ?_
  intro d hd
  have h0 : Δ.H0 d = none := ok.new hd
  have fd : F d = none := ok.fh.nn hd
  have f00 : Δ.F0 d = none := ok.f0.nn fd
  have na : Δ.a0 ≠ some d := fun z => (ok.al d z).2 h0
  have no : ∀ (i : Nat) (r : Rv), c.env[i]? = some (some r) → r.mu → σ[i]? ≠ some (some (.ref d)) := fun i xs e mu z => by
    obtain ⟨v, w1, s1⟩ := ok.sv i _ e
    obtain ⟨a, vs, w2, w3, _⟩ := s1.at mu
    subst w2
    rw [z] at w1
    cases w1
    rw [hd] at w3; cases w3
  have oh := (ok.alloc hd (.dK [])).holdO (p := d) (o := .dK []) upd_same dK_ok.1 (fun n e => (ok.ngen e hd).symm) fd h0 no
  have kxh : ∀ {G : Hp}, Le F G → KX (Δ.hold d (.dK [])) am G XX := fun {G} lg x g F' H' h l fn => kx x g F' H' h (lg.trans l) (fn.unhold h0 na)
  refine ⟨Δ.hold d (.dK []), rfl, am, F, c, _, XX, oh, hf, fun r1 c1 F1 v1 H1 p1 l1 o1 s1 => ?_, kxh (Le.refl F)⟩
  obtain ⟨i, rfl, p1⟩ := asI_of p1
  have w1 := s1.1
  cases w1
  refine ⟨Δ.hold d (.dK []), rfl, am, F1, c1, _, XX, o1, p1, fun r2 c2 F2 v2 H2 p2 l2 o2 s2 => ?_, kxh l1⟩
  obtain ⟨y, F3, hy, l3, o3, ry⟩ := s2.data o2 p2
  obtain ⟨o5, hd5, fd5, no5⟩ := o3.unhold h0 f00 na
  refine ⟨hd5, [((.inl i : Key), v2)], rfl, (by show 1 ≤ 15; decide), ?_⟩
  have em : mergeK [] [((.inl i : Key), v2)] = [((.inl i : Key), v2)] := by
    show putK [] (.inl i : Key) v2 = _
    exact putK_new _ rfl
  rw [em]
  have ok6 := o5.chgO (o' := .dK [((.inl i : Key), v2)]) hd5 dK_ok.1 ⟨_, rfl⟩ (o5.ngD (D := .k []) hd5 ⟨[], rfl, .nil⟩) fd5 h0 no5
  exact kq (.dic (.k [(i, y)])) c2 F3 (.ref d) _ hy ((l1.trans l2).trans l3) ok6 ⟨⟨d, _, rfl, upd_same, fd5, h0, _, rfl, .cons ry .nil⟩, fun _ j r' e mu => no5 j r' e mu⟩
/-- d[k], a name's dict -/
def eDIx (i : Nat) (fb : WE) : WE := fun c P X => isDic c i ∧ fb c (fun r c1 => asI r fun k => dicD c1 i fun kvs => ∃ y, lookD kvs k = some y ∧ P (.d y) c1) X
theorem de_dix (i : Nat) (hu : X.A.units + 64 < cLine) (hb : PE X b (tE Δ fb)) (hs : NoSl b := by intros; rfl) (hN : X.N[i]? = some x := by rfl)
    (hv : Vis X.env.scope x := by first | exact Or.inl rfl | exact Or.inr (Or.inl rfl) | exact Or.inr (Or.inr rfl)) (hd : (x == ("__debug__" : Str)) = false := by decide)
    (hcd : (x == ("__classdict__" : Str)) = false := by decide) : PE X (.Subscript (.Name x p) b pos) (tE Δ (eDIx i fb)) := by
  refine (pe_dget (by omega) (pv i hN hv hd hcd) hb hs).imp fun σ H Q ⟨am, F, c, P, XX, ok, ⟨ho, hf⟩, kq, kx⟩ => ?_
  obtain ⟨a, ws, kvs, _, e0, g1, _⟩ := ok.mineD ho
  refine ⟨_, g1, am, F, c, _, XX, ok, hf, fun r c1 F1 v1 H1 p1 l1 o1 s1 => ?_, kx⟩
  obtain ⟨k, rfl, p1⟩ := asI_of p1
  have w1 := s1.1
  cases w1
  obtain ⟨a', us, kvs', q, e1, k1, k2, k3, k4, k5⟩ := o1.mineD p1
  rw [g1] at k1
  cases k1
  obtain ⟨y, hy, hp⟩ := q
  obtain ⟨v, hv, rv⟩ := k5.look.1 y hy
  refine ⟨a, v, rfl, ?_, kq (.d y) c1 F1 v H1 hp l1 o1 (.of rv)⟩
  have g := DGet.k (k := (.inl k : Key)) k2
  rw [hv] at g
  exact g
/-- k in d, k not in d -/
def eDIn (neg : Bool) (i : Nat) (fb : WE) : WE := fun c P X => isDic c i ∧ fb c (fun r c1 => asI r fun k => dicD c1 i fun kvs => P (.d (.bool (if neg then !(lookD kvs k).isSome else (lookD kvs k).isSome))) c1) X
theorem din_some {am : Addr} {F : Hp} {kvs : List (Int × Px)} {ws : List (Key × V)} {k : Int} (r : RpK F ws kvs) : (valV ws (.inl k : Key)).isSome = (lookD kvs k).isSome := by
  cases h : lookD kvs k with
  | none =>
    rw [r.look.2 h]
    rfl
  | some y =>
    obtain ⟨v, hv, _⟩ := r.look.1 y h
    rw [hv]
    rfl
section
variable (i : Nat) (hu : X.A.units + 64 < cLine) (hb : PE X b (tE Δ fb)) (hN : X.N[i]? = some x)
    (hv : Vis X.env.scope x) (hd : (x == ("__debug__" : Str)) = false)
    (hcd : (x == ("__classdict__" : Str)) = false)
include hu hb hN hv hd hcd
theorem dn_in : PC X .NotIn b (.Name x p) (fun σ H Q => tE Δ (eDIn true i fb) σ H Q) := by
  refine ⟨fun pins s σ H Q I h => (pc_dnotin (by omega) hb (pv i hN hv hd hcd)).run pins s σ H Q I ?_⟩
  obtain ⟨am, F, c, P, XX, ok, ⟨ho, hf⟩, kq, kx⟩ := h
  refine ⟨am, F, c, _, XX, ok, hf, fun r c1 F1 v1 H1 p1 l1 o1 s1 => ?_, kx⟩
  obtain ⟨k, rfl, p1⟩ := asI_of p1
  have w1 := s1.1
  cases w1
  obtain ⟨a', us, kvs', q, e1, k1, k2, k3, k4, k5⟩ := o1.mineD p1
  refine ⟨_, k1, a', valV us (.inl k : Key), rfl, DGet.k (k := (.inl k : Key)) k2, ?_⟩
  rw [din_some (am := am) k5]
  exact kq _ c1 F1 _ H1 q l1 o1 (.of (.bl _))
theorem d_in' : PC X .In b (.Name x p) (fun σ H Q => tE Δ (eDIn false i fb) σ H Q) := by
  refine ⟨fun pins s σ H Q I h => (pc_din (by omega) hb (pv i hN hv hd hcd)).run pins s σ H Q I ?_⟩
  obtain ⟨am, F, c, P, XX, ok, ⟨ho, hf⟩, kq, kx⟩ := h
  refine ⟨am, F, c, _, XX, ok, hf, fun r c1 F1 v1 H1 p1 l1 o1 s1 => ?_, kx⟩
  obtain ⟨k, rfl, p1⟩ := asI_of p1
  have w1 := s1.1
  cases w1
  obtain ⟨a', us, kvs', q, e1, k1, k2, k3, k4, k5⟩ := o1.mineD p1
  refine ⟨_, k1, a', valV us (.inl k : Key), rfl, DGet.k (k := (.inl k : Key)) k2, ?_⟩
  rw [din_some (am := am) k5]
  exact kq _ c1 F1 _ H1 q l1 o1 (.of (.bl _))
end
theorem dt_dnin (i : Nat) (hu : X.A.units + 64 < cLine) (hb : PE X b (tE Δ fb)) (hN : X.N[i]? = some x := by rfl)
    (hv : Vis X.env.scope x := by first | exact Or.inl rfl | exact Or.inr (Or.inl rfl) | exact Or.inr (Or.inr rfl)) (hd : (x == ("__debug__" : Str)) = false := by decide)
    (hcd : (x == ("__classdict__" : Str)) = false := by decide) (hm : behindInMarks .NotIn (.Name x p) = false := by first | exact nobehind _ (by decide) (by decide) | rfl) : PT X (.Compare b [.NotIn] [.Name x p] pos) (tT Δ (wB (eDIn true i fb))) :=
  (pt_cmp (dn_in i hu hb hN hv hd hcd) hm).imp fun σ H Q h => tB_of _ _ (fun _ _ _ h => h) σ H Q h
theorem dt_din (i : Nat) (hu : X.A.units + 64 < cLine) (hb : PE X b (tE Δ fb)) (hN : X.N[i]? = some x := by rfl)
    (hv : Vis X.env.scope x := by first | exact Or.inl rfl | exact Or.inr (Or.inl rfl) | exact Or.inr (Or.inr rfl)) (hd : (x == ("__debug__" : Str)) = false := by decide)
    (hcd : (x == ("__classdict__" : Str)) = false := by decide) (hm : behindInMarks .In (.Name x p) = false := by first | exact nobehind _ (by decide) (by decide) | rfl) : PT X (.Compare b [.In] [.Name x p] pos) (tT Δ (wB (eDIn false i fb))) :=
  (pt_cmp (d_in' i hu hb hN hv hd hcd) hm).imp fun σ H Q h => tB_of _ _ (fun _ _ _ h => h) σ H Q h
/-- d[k] = v, a name's dict -/
def sDctP (i : Nat) (fv fk : WE) : WS := fun c P X => fv c (fun r c1 => asD r fun y => isDic c1 i ∧ fk c1 (fun r2 c2 => asI r2 fun k => dicD c2 i fun kvs => kvs.length < 1000000 ∧ P (.nx (putE c2 i (.dic (.k (putD kvs k y)))))) X) X
theorem ds_dput (i : Nat) {q2 : Pos} (hu : X.A.units + 64 < cLine) (hv' : PE X a (tE Δ fa)) (hb : PE X b (tE Δ fb)) (hN : X.N[i]? = some x := by rfl)
    (hv : Vis X.env.scope x := by first | exact Or.inl rfl | exact Or.inr (Or.inl rfl) | exact Or.inr (Or.inr rfl)) (hd : (x == ("__debug__" : Str)) = false := by decide)
    (hcd : (x == ("__classdict__" : Str)) = false := by decide) (hs : swapsWith a (some (.Subscript (.Name x p) b q2)) pos.line X.env = pure false := by rfl) : PS X (.Assign [.Subscript (.Name x p) b q2] a pos) (tS Δ (sDctP i fa fb)) := by
  refine (ps_dput (by omega) (pv i hN hv hd hcd) hb hv' hs).imp fun D σ H ⟨am, F, c, P, XX, ok, hf, kf, kx⟩ => ?_
  refine ⟨am, F, c, _, XX, ok, hf, fun r c1 F1 v1 H1 p1 l1 o1 s1 => ?_, kx am⟩
  obtain ⟨y, F2, ⟨ho, hy⟩, l2, o2, ry⟩ := s1.data o1 p1
  obtain ⟨a0, ws, kvs, _, e0, g1, _⟩ := o2.mineD ho
  refine ⟨_, g1, am, F2, c1, _, XX, o2, hy, fun r2 c2 F3 v2 H3 p3 l3 o3 s3 => ?_, (kx am).le (l1.trans l2)⟩
  obtain ⟨k, rfl, p3⟩ := asI_of p3
  have w1 := s3.1
  cases w1
  obtain ⟨a', us, kvs', q, e1, k1, k2, k3, k4, k5⟩ := o3.mineD p3
  rw [g1] at k1
  cases k1
  exact ⟨a0, _, rfl, DPut.k (k := (.inl k : Key)) k2 (Nat.lt_of_lt_of_le (show us.length < 1000000 by rw [k5.length]; exact q.1) (line_of (Nat.le_refl _))), kf.1 _ am F3 σ _ q.2 ((l1.trans l2).trans l3) (o3.mutateD e1 g1 k2 k3 k4 k5 (k5.put (ry.mono l3)))⟩
/-- return d, a name's dict -/
def sRetD (i : Nat) : WS := fun c P _ => dicD c i fun kvs => P (.rt (.dic (.k kvs)) c.g)
theorem ds_retD (i : Nat) (hN : X.N[i]? = some x := by rfl)
    (hv : Vis X.env.scope x := by first | exact Or.inl rfl | exact Or.inr (Or.inl rfl) | exact Or.inr (Or.inr rfl)) (hd : (x == ("__debug__" : Str)) = false := by decide)
    (hcd : (x == ("__classdict__" : Str)) = false := by decide) : PS X (.Return (some (.Name x p)) pos) (tS Δ (sRetD i)) := by
  refine (ps_ret (pv i hN hv hd hcd)).imp fun D σ H ⟨am, F, c, P, XX, ok, hf, kf, kx⟩ => ?_
  obtain ⟨a, ws, kvs, q, e0, g1, g2, g3, g4, g5⟩ := ok.mineD hf
  exact ⟨_, g1, kf.2.2.2 _ _ am F H _ q (Le.refl F) ok.fin ⟨a, _, rfl, g2, g3, g4, ws, rfl, g5⟩⟩
/-- f(..)[k], a def that returns a dict -/
def eDIxC (fa fb : WE) : WE := fun c P X => fa c (fun r c1 => dicR r fun kvs => fb c1 (fun r2 c2 => asI r2 fun k => ∃ y, lookD kvs k = some y ∧ P (.d y) c2) X) X
theorem de_dixC (hu : X.A.units + 64 < cLine) (ha : PE X a (tE Δ fa)) (hb : ∀ Δ' : Dx, Δ'.K = Δ.K → PE X b (tE Δ' fb)) (hs : NoSl b := by intros; rfl) : PE X (.Subscript a b pos) (tE Δ (eDIxC fa fb)) := by
  let tb : TE := fun σ H Q => ∃ Δ' : Dx, Δ'.K = Δ.K ∧ tE Δ' fb σ H Q
  have hb' : PE X b tb := ⟨fun pins s σ H Q I ⟨Δ', e, h⟩ => (hb Δ' e).run pins s σ H Q I h⟩
  refine (pe_dget (by omega) ha hb' hs).imp fun σ H Q ⟨am, F, c, P, XX, ok, hf, kq, kx⟩ => ?_
  refine ⟨am, F, c, _, XX, ok, hf, fun r1 c1 F1 v1 H1 p1 l1 o1 s1 => ?_, kx⟩
  dsimp only at p1
  unfold dicR at p1
  split at p1
  · rename_i kvs
    refine keep_of (Δ := Δ) o1 s1 (fun Δ' e σ H Q h => ⟨Δ', e, h⟩) p1 (kx.le l1) fun r2 c2 F2 v2 H2 p2 l2 o2 s2 s1' ne => ?_
    obtain ⟨k, rfl, p2⟩ := asI_of p2
    have w1 := s2.1
    cases w1
    obtain ⟨y, hy, hp⟩ := p2
    obtain ⟨ad, o, q1, q2, q3, q4, ws, q5, q6⟩ := s1'.1
    subst q1
    subst q5
    obtain ⟨v, hv, rv⟩ := q6.look.1 y hy
    refine ⟨ad, v, rfl, ?_, kq (.d y) c2 F2 v H2 hp (l1.trans l2) o2 (.of rv)⟩
    have g := DGet.k (k := (.inl k : Key)) q2
    rw [hv] at g
    exact g
  · exact p1.elim
/-- xs.pop(0), a name's own list -/
def ePop0 (i : Nat) : WE := fun c P _ => ownD c i fun xs => hdX xs fun y ys => P (.d y) (putE c i (.own ys))
theorem eDIn_t {i : Nat} {fb : WE} {c : Cf} {P : Rv → Cf → Prop} {XX : XP} : eDIn true i fb c P XX = (isDic c i ∧ fb c (fun r c1 => asI r fun k => dicD c1 i fun kvs => P (.d (.bool (!(lookD kvs k).isSome))) c1) XX) := rfl
theorem eDIn_f {i : Nat} {fb : WE} {c : Cf} {P : Rv → Cf → Prop} {XX : XP} : eDIn false i fb c P XX = (isDic c i ∧ fb c (fun r c1 => asI r fun k => dicD c1 i fun kvs => P (.d (.bool (lookD kvs k).isSome)) c1) XX) := rfl
theorem de_pop0 (i : Nat) {k0 : Nat} {p0 : Pos} (hN : X.N[i]? = some x := by rfl)
    (hv : Vis X.env.scope x := by first | exact Or.inl rfl | exact Or.inr (Or.inl rfl) | exact Or.inr (Or.inr rfl)) (hd : (x == ("__debug__" : Str)) = false := by decide)
    (hcd : (x == ("__classdict__" : Str)) = false := by decide) (hst : starEach (Expr.Constant (.int 0) k0 p0 :: []) X.env = (false, eval (.Constant (.int 0) k0 p0) X.env) :: starEach [] X.env := by rfl) (hln : (p2.endLine == pos.line) = true := by rfl)
    (hfw : ((backTo pos (starEach [Expr.Constant (.int 0) k0 p0] X.env)).all (fun x => !x.1) && (backToKw pos (keywordEach [] X.env)).all (fun x => x.1.isSome) && decide ([Expr.Constant (.int 0) k0 p0].length + ([] : List Keyword).length + (if ([] : List Keyword).isEmpty then 0 else 1) < 30)) = true := by rfl) : PE X (.Call (.Attribute (.Name x p) "pop" p2) [.Constant (.int 0) k0 p0] [] pos) (tE Δ (ePop0 i)) := by
  refine (pe_bm PySem.F.plainAttrs_list PySem.F.slot_list_pop PySem.F.type_list_pop mt_popAt (pv i hN hv hd hcd) (pa_cons (pe_int (i := 0)) pa_nil hst) rfl hfw hln hst).imp fun σ H Q ⟨am, F, c, P, XX, ok, hf, kq, kx⟩ => ?_
  obtain ⟨a, vs, xs, q, e0, h1, h2, h3, h4, h5⟩ := ok.mine hf
  cases h5 with
  | nil => exact q.elim
  | @cons v vs y ys rv r2 =>
    refine ⟨_, h1, Or.inl ⟨rfl, _, SqL.of h2⟩, ?_⟩
    refine ⟨a, v :: vs, 0, 0, v, rfl, rfl, h2, by decide, by decide, ?_, rfl, kq (.d y) _ F v _ q (Le.refl F) (ok.mutate e0 h1 h2 h3 h4 r2) (.of rv)⟩
    simp [seqIndex?]
end
end Dl
set_option Elab.async false
set_option maxRecDepth 100000
set_option linter.all false
set_option autoImplicit false
namespace Dl
open PySem L2
variable [TabF]
/-! ### comprehensions whose elements are drawn -/
inductive All2 {α β : Type} (G : α → β → Prop) : List α → List β → Prop
  | nil : All2 G [] []
  | cons {a : α} {b : β} {l : List α} {m : List β} : G a b → All2 G l m → All2 G (a :: l) (b :: m)
theorem All2.length {α β : Type} {G : α → β → Prop} : ∀ {l : List α} {m : List β}, All2 G l m → l.length = m.length
  | _, _, .nil => rfl
  | _, _, .cons _ b => congrArg (· + 1) b.length
theorem All2.snd {α β : Type} {G : α → β → Prop} {H : β → Prop} (h : ∀ a b, G a b → H b) : ∀ {l : List α} {m : List β}, All2 G l m → ∀ b ∈ m, H b
  | _, _, .nil => fun b hb => (nomatch hb)
  | _, _, .cons x y => fun b hb => by
    rcases List.mem_cons.mp hb with rfl | hb
    · exact h _ _ x
    · exact y.snd h b hb
theorem All2.map {α β γ : Type} {G : α → β → Prop} {f : α → γ} {k : β → γ} (h : ∀ a b, G a b → f a = k b) : ∀ {l : List α} {m : List β}, All2 G l m → l.map f = m.map k
  | _, _, .nil => rfl
  | _, _, .cons x y => by rw [List.map_cons, List.map_cons, h _ _ x, y.map h]
section
variable {g : WG} {t : WT} {f : WE} {vs : List Nat} {env : List (Option Rv)} {X : XP} {P : Rv → Cf → Prop}
theorem lcW_drw {α β : Type} (e : α → Px) (e2 : β → Px) (G : α → β → Prop) (d top : Nat) : ∀ (l : List α) (acc : List Px) (n : Nat),
    (∀ x ∈ l, ∀ (n : Nat) (R : Px → Option Nat → Prop) (S : Option Nat → Prop), n + d ≤ top → (∀ (b : β) (m : Nat), G x b → m ≤ n + d → R (e2 b) (some m)) → Turn1 g t f vs env X (e x) (some n) R S) →
    n + d * l.length ≤ top → acc.length + l.length ≤ 1000000 → (∀ (bs : List β) (m : Nat), All2 G l bs → m ≤ n + d * l.length → P (.own (acc ++ bs.map e2)) ⟨env, some m⟩) → lcW g t f vs env X P (l.map e) acc (some n)
  | [], acc, n, _, _, _, q => by
    have := q [] n .nil (by simp)
    simp only [List.map_nil, List.append_nil] at this
    exact this
  | x :: xs, acc, n, ht, hn, hl, q => by
    simp only [List.length_cons] at hl hn
    have e1 : d * (xs.length + 1) = d * xs.length + d := Nat.mul_succ _ _
    refine ht x List.mem_cons_self n (fun y g' => acc.length < 1000000 ∧ lcW g t f vs env X P (xs.map e) (acc ++ [y]) g') (fun g' => lcW g t f vs env X P (xs.map e) acc g') (by rw [e1] at hn; omega) (fun b m hb hm => ⟨by omega, ?_⟩)
    refine lcW_drw e e2 G d top xs (acc ++ [e2 b]) m (fun z hz => ht z (List.mem_cons_of_mem _ hz)) (by rw [e1] at hn; omega) (by simp only [List.length_append, List.length_cons, List.length_nil]; omega) fun bs m2 h1 h2 => ?_
    rw [List.append_assoc]
    exact q (b :: bs) m2 (.cons hb h1) (by simp only [List.length_cons]; rw [e1]; omega)
end
/-! ### [..] * k -/
end Dl
set_option Elab.async false
set_option linter.all false
set_option autoImplicit false
set_option maxRecDepth 100000
set_option maxHeartbeats 4000000
/-! zip of three lists of one length. New objects stand at n (three iterators), n + 3 (their tuple), n + 4 (the tuple kept), n + 5 (zip). -/
namespace Z3
open PySem PySem.F PyProof.Rows
open PySem.Sem (wp)
abbrev Tri (h : Heap) (T : Addr) (a b c : Value) : Prop := h.get? T = some { cls := .type "tuple", data := .seq #[a, b, c] }
section
variable {prog : Program} {w : World} {A : Around} {E : Value → Shared → Prop} {s : Shared}
/-- how the heap stands at turn k -/
structure St (h : Heap) (n l1 l2 l3 k : Nat) (f0 : Value) : Prop where
  z : IsZip h (n + 5) (n + 3) (n + 4) f0
  ti : Tri h (n + 3) (.ref n) (.ref (n + 1)) (.ref (n + 2))
  to : ∃ a b c, Tri h (n + 4) a b c
  h1 : h.IsListIter n l1 k
  h2 : h.IsListIter (n + 1) l2 k
  h3 : h.IsListIter (n + 2) l3 k
end
end Z3
namespace L2
open PySem PySem.Spec PyProof.Rows
end L2
namespace Dl
open PySem L2
variable [TabF]
def zip3X : List Px → List Px → List Px → List Px
  | x :: xs, y :: ys, z :: zs => .tuple [x, y, z] :: zip3X xs ys zs
  | _, _, _ => []
/-- zip of three lists of one length -/
def iZp3 (f : WA) : WI := fun c P X => f c (fun rs c1 => match rs with
  | [.d (.list xs), .d (.list ys), .d (.list zs)] => ys.length = xs.length ∧ zs.length = xs.length ∧ P (zip3X xs ys zs) c1
  | _ => False) X
end Dl
set_option Elab.async false
set_option maxRecDepth 100000
set_option linter.all false
set_option autoImplicit false
namespace Dl
open PySem L2
variable [TabF]
/-! ### try: NAME = f(..) if c else g(..), and clauses `except C as e: NAME = ('word', e.field)` -/
/-- a part of the tuple that a clause gives -/
inductive Part
  | st (s : Str)
  | fl (f : Str)
structure HndT where
  cls : Str
  ie : Nat
  j : Nat
  ps : List Part
def partsV (x : Xn) : List Part → Option (List Px)
  | [] => some []
  | .st s :: r => (partsV x r).map (.str s :: ·)
  | .fl f :: r => match x.fields.lookup f, partsV x r with
    | some p, some l => some (p :: l)
    | _, _ => none
def tParts (a : Addr) (cls : Value) (d : Option Addr) (C : Addr) (ie : Nat) : List Part → TA
  | [] => tNil
  | .st s :: r => tCons (tC (.str s)) (tParts a cls d C ie r)
  | .fl f :: r => tCons (tXf a cls d C f (tVar ie)) (tParts a cls d C ie r)
def claTT (C : Addr) (h : HndT) : Addr → Value → Option Addr → TS := fun a cls d => tAsg (tTup (tParts a cls d C h.ie h.ps)) (gName h.j)
section
variable {X : Cx} {Δ : Dx}
/-- the suite NAME = (parts) -/
theorem claTT_ok {C : Addr} {cl n2 : Str} {es : List Expr} {kk : Nat} {j ie : Nat} {ps : List Part} {pt pn2 pos : Pos} (nd : X.N.Nodup) (h2 : X.N[j]? = some n2) (hv2 : Loc X.env.scope n2) (hf : X.fn n2 = true ∨ X.env.scope.names.lookup n2 = some .local)
    (a : Addr) (o : Obj) (cls : Value) (d : Option Addr) (pn : List (Addr × Obj)) (hp : PA (X.suite a ((a, o) :: pn)) es (tParts a cls d C ie ps))
    (hs : swapsWith (.Tuple es kk pt) (some (.Name n2 pn2)) pos.line X.env = pure false := by rfl) : PSs (X.suite a ((a, o) :: pn)) [.Assign [.Name n2 pn2] (.Tuple es kk pt) pos] (claTT C ⟨cl, ie, j, ps⟩ a cls d) :=
  pss_one (ps_set (X := X.suite a ((a, o) :: pn)) nd h2 hv2 (pe_tup hp) hs hf)
end
end Dl
set_option Elab.async false
set_option maxRecDepth 100000
set_option linter.all false
set_option autoImplicit false
namespace Dl
open PySem L2
variable [TabF]
/-! ### repr of lists -/
theorem ok_list {ts : List Str} (h : ∀ t ∈ ts, PyData.strOk t = true) : PyData.strOk (listText ts) = true := by
  rw [listText_eq_join, ok_app, ok_app, ok_join h]
  have h1 : PyData.strOk (("[" : String) : Str) = true := strOk_of "["
  have h2 : PyData.strOk (("]" : String) : Str) = true := strOk_of "]"
  rw [h1, h2]
  rfl
theorem Sho.lst {e b n : Nat} {xs : List Px} (h : ∀ x ∈ xs, Sho e b x) (hl : xs.length ≤ n) : Sho (e + 1) (n * b + 2 * n + 3) (.list xs) := by
  obtain ⟨h1, h2, h3, h4, h5, h6⟩ := sho_all h
  refine ⟨by simpa [PyData.showable] using h1, by simpa [PyData.hasDict] using h2, ?_, ?_, by simp only [PyData.shown]; exact ok_list h6⟩
  · simp only [PyData.depth]
    omega
  · have t := listText_len_le (PyData.shownAll xs)
    have m : xs.length * b ≤ n * b := Nat.mul_le_mul_right b hl
    simp only [PyData.shown]
    omega
section
variable {X : Cx} {Δ : Dx}
theorem cr_repr_lst (hg : X.A.guards = some []) (hu : X.A.units + 64 < cLine) : CallR X (.builtin "repr") (fun vs H Q => ∃ v xs, vs = [v] ∧ Dp X.K H v (.list xs) ∧ Sho 40 1000000 (.list xs) ∧ Q (.str (PyData.shown (.list xs))) H) := by
  intro pins s σ H vs us Q I r h
  obtain ⟨v, xs, rfl, hd, hs, q⟩ := h
  cases r with
  | cons r rr =>
    cases rr
    obtain ⟨as, rd⟩ := Dp.reads I _ _ _ hd r
    have hd' := hd
    cases hd' with
    | lst e1 e2 =>
      cases r
      refine repr_of_reads' rd hs.sh (fun z => by rw [hs.nd] at z; cases z) hg (by have := hs.dp; omega) (fun _ _ e => e) (fun h' u tk k => ?_) (Nat.le_trans hs.ln (by rw [sizeLine_eq]; decide))
      exact ⟨.str _, H, I.kept (t' := tk) k, ⟨_, rfl⟩, q⟩
def reprM : CD := fun rs P => match rs with
  | [.d .none] => P (.d (.str "None"))
  | [.d (.bool b)] => P (.d (.str (rb b)))
  | [.d (.int i)] => i.natAbs.log2 < 1920 ∧ P (.d (.str (ri i)))
  | [.d (.tuple xs)] => Sho 40 1000000 (.tuple xs) ∧ P (.d (.str (PyData.shown (.tuple xs))))
  | [.d (.list xs)] => Sho 40 1000000 (.list xs) ∧ P (.d (.str (PyData.shown (.list xs))))
  | _ => False
theorem cl_reprM {k : Nat} (hr : RoomG k X.A) (hK : Δ.K = X.K) (hk : X.K = TabF.K := by first | rfl | assumption) : ClD X Δ (.builtin "repr") reprM :=
  ⟨_, CallR.or (CallR.or (CallR.or (CallR.or cr_repr_bool SkE.call_repr_int) (cr_repr_tup hr.gd hr.units)) cr_repr_non) (cr_repr_lst hr.gd hr.units), fun am F σ H c vs rs P Q ok rx ho k => by
    unfold reprM at ho
    split at ho
    · cases rx with
      | d r1 r2 =>
        cases r1
        cases r2
        exact .inl (.inr ⟨rfl, k _ F _ H ho (Le.refl F) ok (.of (.str _))⟩)
    · cases rx with
      | d r1 r2 =>
        cases r1
        cases r2
        exact .inl (.inl (.inl (.inl ⟨_, rfl, k _ F _ H ho (Le.refl F) ok (.of (.str _))⟩)))
    · cases rx with
      | d r1 r2 =>
        cases r1
        cases r2
        exact .inl (.inl (.inl (.inr ⟨_, rfl, ho.1, k _ F _ H ho.2 (Le.refl F) ok (.of (.str _))⟩)))
    · cases rx with
      | d r1 r2 =>
        cases r2
        exact .inl (.inl (.inr ⟨_, _, rfl, r1.dp hk ok.fh ho.1.nd, ho.1, k _ F _ H ho.2 (Le.refl F) ok (.of (.str _))⟩))
    · cases rx with
      | d r1 r2 =>
        cases r2
        exact .inr ⟨_, _, rfl, r1.dp hk ok.fh ho.1.nd, ho.1, k _ F _ H ho.2 (Le.refl F) ok (.of (.str _))⟩
    · exact ho.elim⟩
end
theorem reprM_n {P : Rv → Prop} : reprM [.d .none] P = P (.d (.str "None")) := rfl
theorem reprM_b {b : Bool} {P : Rv → Prop} : reprM [.d (.bool b)] P = P (.d (.str (rb b))) := rfl
theorem reprM_i {i : Int} {P : Rv → Prop} : reprM [.d (.int i)] P = (i.natAbs.log2 < 1920 ∧ P (.d (.str (ri i)))) := rfl
theorem reprM_t {xs : List Px} {P : Rv → Prop} : reprM [.d (.tuple xs)] P = (Sho 40 1000000 (.tuple xs) ∧ P (.d (.str (PyData.shown (.tuple xs))))) := rfl
theorem reprM_l {xs : List Px} {P : Rv → Prop} : reprM [.d (.list xs)] P = (Sho 40 1000000 (.list xs) ∧ P (.d (.str (PyData.shown (.list xs))))) := rfl
end Dl
set_option Elab.async false
set_option maxRecDepth 100000
set_option linter.all false
set_option autoImplicit false
set_option maxHeartbeats 1000000
namespace Dl
open PySem PySem.Spec PyProof.Rows L2 LamX
variable [TabF]
/-! ### a lambda without parameters, handed to a def that calls it where no repr is under way -/
section
variable {X : Cx} {pins : List (Addr × Obj)} {σ : L2.St} {H : Hp} {s : Shared}
/-- the def's call of what it got -/
theorem actG {cx : CXT} {E0' E : XK} {Ng : List Str} {qg a : Str} {sg scope : Scope} {g f cA : Addr} {cdg pm ctv : Value} {params : Arguments} {body : Expr} {k : Nat} {pn : List (Addr × Obj)} {xe : Value → Shared → Prop} {W : WX} {tb : TE} {p1 p2 : Pos}
    (I : Inv X pins σ H s) (L : LamS X.env.scope scope) (stands : s.heap.get? f = some (PySem.W.kla_obj "<lambda>" (X.env.qual ++ "<lambda>") params body scope (cloFrom X.env.cells scope.names []) pm cA ctv)) (un1 : H f = none) (un2 : f ∉ frs X.stack)
    (none_bound : bindArgs (PySem.W.kla_fn "<lambda>" (X.env.qual ++ "<lambda>") params body scope (cloFrom X.env.cells scope.names []) pm (.ref cA) ctv) ⟨[], []⟩ = pure [])
    (tk : Takes ((cxOf cx X.prog X.w X.K X.mg X.base Ng qg sg g cdg X.A X.stack s H E0').tr pn xe) W) (room : RoomG (k + 1) (X.A.deeper (envOfC qg sg s.heap.objs.size g cdg)))
    (hb : ∀ (B : Around) (out : List Env) (s2 : Shared) (H2 : Hp), RoomG k (B.deeper (lamEnv X scope s2.heap.objs.size f cA)) → PE (lamCx X B out s2 H2 E scope f cA) body tb)
    (at0 : Ng[0]? = some a) (vis : Vis sg a) (d1 : (a == ("__debug__" : Str)) = false) (d2 : (a == ("__classdict__" : Str)) = false) :
    PE ((cxOf cx X.prog X.w X.K X.mg X.base Ng qg sg g cdg X.A X.stack s H E0').tr pn xe) (.Call (.Name a p1) [] [] p2)
      (fun τ G Q => (∀ cls d G', E cls d G' → W cls d τ G') ∧ τ[0]? = some (some (.ref f)) ∧ G cA = some (CodeO cA (X.env.qual ++ "<lambda>")) ∧ tb σ G Q) := by
  constructor
  rintro pins' s' τ G Q J ⟨hW, slot, code, want⟩
  refine wpAny_Call_Name_kw (thn ((pe_var (pos := p1) (i := 0) at0 vis d1 d2).run pins' s' τ G (fun v G1 => v = .ref f ∧ G1 = G) J ⟨_, slot, rfl, rfl⟩) fun u s1 got => ?_)
  obtain ⟨v, G1, J1, rel, rfl, rfl⟩ := got
  have eu : u = .ref f := rel
  subst eu
  have fobj := J1.base.keep f _ stands un1 un2 fun z => nomatch (show f ∈ ([] : List Addr) from z)
  refine PySem.W.callWith_F0 ⟨_, _, _, _, fobj⟩ ?_
  obtain ⟨⟨oc, vs, t, c1, c2, c3⟩, _, _⟩ := J1.hok cA _ code
  have run : codeAny (model X.prog X.w) (X.A.deeper (envOfC qg sg s.heap.objs.size g cdg)) (.call (.ref f) ⟨[], []⟩) (CR (L2.CX X.prog X.w) (envOfC qg sg s.heap.objs.size g cdg :: X.stack) X.prog X.w G1 s1 Q E) s1 := by
    refine PySem.W.kla_callFunE room.depth fobj rfl L.co L.gen rfl ⟨cA, oc, vs, t, rfl, c1, c2, c3⟩ ?_
    rw [none_bound]
    refine wpAny_pure (wpAny_newFunctionEnv (fun y hy => (L.own y hy).2) (fun y hy => nomatch hy) (fun h1 hns hsb => ⟨J1.nolimit.fresh _ hsb, ?_⟩) L.kind)
    have keep1 : ∀ b o, s1.heap.get? b = some o → h1.get? b = some o := fun b o e => hsb.extBut b o (Nat.ne_of_lt (Heap.lt_size e)) (Heap.get?_push_of_some _ e)
    have start1 := lam_start2 (E := E) (f := f) (c' := cA) (tk := s1.toks + ([] : List (Str × Value)).length) I L J1.env0 room.hd (show Un (frs X.stack) [] H G1 s.heap s1.heap from J1.base) hns keep1
    refine PySem.W.kla_codeExpr (A := X.A.deeper (envOfC qg sg s.heap.objs.size g cdg)) (wpAny_mono ((hb _ _ s1 G1 (room.deeper _)).run [] _ _ G1 Q start1 want) (fun v2 s2 got => ?_) fun _ _ got => got)
    obtain ⟨w2, G2, J2, r2, q2⟩ := got
    exact ⟨w2, G2, J2.os, J2.bare, J2.base, J2.hok, r2, q2⟩
  refine wpAny_call (codeAny_mono run fun res s2 got => ?_)
  match res, got with
  | .error er, got => exact tk er s2 (XE.of_call J1 (fun _ _ _ z => hW _ _ _ z) got)
  | .ok (.ret u), got => exact J1.after got
/-- what a def makes of a lambda: its call a() is read by tl, where its exceptions are wished for with the slots -/
def GivesG (X : Cx) (Ng : List Str) (x a q : Str) (sg : Scope) (g : Addr) (cdg : Value) (bg : List Stmt) (TT : (XK → Hp → VK → Prop) → Hp → VK → Prop) : Prop :=
  ∀ (f cA : Addr) (s : Shared) (H : Hp) (Q : VK) (tl : XK → Hp → VK → Prop), (let Y := cxOf C8.CX0 X.prog X.w X.K X.mg X.base Ng x sg g cdg X.A X.stack s H C8.E0
    (∀ (W : WX) (E : XK) (pn : List (Addr × Obj)) (xe : Value → Shared → Prop) (p1 p2 : Pos), Takes (Y.tr pn xe) W →
      PE (Y.tr pn xe) (.Call (.Name a p1) [] [] p2) (fun τ G Q => (∀ cls d G', E cls d G' → W cls d τ G') ∧ τ[0]? = some (some (.ref f)) ∧ G cA = some (CodeO cA q) ∧ tl E G Q)) →
    H cA = some (CodeO cA q) → TT tl H Q → ∃ t, PSs Y.nox bg t ∧ t { nx := fun _ H' => Q .non H', rt := Q } (L2.start Ng [.ref f]) H)
/-- the call of the def, with the lambda -/
theorem lamcallG {T : List (Addr × Str)} {TT : (XK → Hp → VK → Prop) → Hp → VK → Prop} {x a : Str} {g c P : Addr} {k : Nat} {pg params : Arguments} {bg : List Stmt} {sg scope : Scope} {dV kV doc pm cdv ct oc : Value} {an od : Option Addr} {osl : Array (Option Value)} {Ng : List Str}
    {body : Expr} {t : XK → TE} {p lpos pos : Pos} (hg : Gl X x) (hm : X.mg x = some (.ref g)) (hk : PySem.W.keepIn X.K (.ref g) = true) (lk : X.K.lookup g = some ⟨oc, od, .func (PySem.W.fnOf x x pg bg sg dV kV doc pm an cdv ct), osl⟩)
    (hcg : PySem.W.codeIn X.K cdv x = true) (hb : L2.Binds X.K (PySem.W.fnOf x x pg bg sg dV kV doc pm an cdv ct) [a] []) (Sg : FnScope Ng [a] sg) (hNg : Ng[0]? = some a) (hva : Vis sg a) (hG : GivesG X Ng x a (X.env.qual ++ "<lambda>") sg g cdv bg TT)
    (TB : TabB X.base X.mg c P) (hcode : X.env.code = .ref c) (inT : (P, X.env.qual ++ "<lambda>") ∈ T) (one : ∀ p ∈ T, p.1 = P → p.2 = X.env.qual ++ "<lambda>") (room : RoomG (k + 2) X.A) (L : LamS X.env.scope scope) (hdef : defaultsOf params X.env = ([], []))
    (none_bound : ∀ (q : Str) (cl : List (Str × Addr)) (pm cv ctv : Value), bindArgs (PySem.W.kla_fn "<lambda>" q params body scope cl pm cv ctv) ⟨[], []⟩ = pure [])
    (hbody : ∀ (B : Around) (out : List Env) (s : Shared) (H : Hp) (E : XK) (f cA : Addr), RoomG k (B.deeper (lamEnv X scope s.heap.objs.size f cA)) → PE (lamCx X B out s H E scope f cA) body (t E))
    (hdb : (x == ("__debug__" : Str)) = false) (d1 : (a == ("__debug__" : Str)) = false) (d2 : (a == ("__classdict__" : Str)) = false) :
    PE X (.Call (.Name x p) [.Lambda params body scope lpos] [] pos) (tLam T TT t) := by
  constructor
  rintro pins s σ H Q I ⟨tabs, want⟩
  refine wpAny_Call_Name_kw (ld_glob I hg hm (PySem.W.callWith_K (h₀ := X.base) I.ok.mod.kin hk ?_ (by rfl) (by rfl)) hdb)
  show wpAny _ _ (spliced ((false, eval (.Lambda params body scope lpos) X.env) :: backTo pos (starEach [] X.env))) _ _ s
  refine Calls.spliced_cons (lam_make2 I TB hcode inT one tabs hdef (L.has I.ok) fun f cA pm' ctv H1 s1 I1 grown tabs1 stands un1 un2 code => ?_)
  refine Calls.spliced_nil ⟨I1.kIn, wpAny_call (codeAny_mono (R := CR C8.CX0 X.stack X.prog X.w H1 s1 Q C8.E0) ?_ fun res s2 got => ?_)⟩
  · refine run_ofS (N := Ng) (ps := [a]) (us := [.ref f]) (vs := [.ref f]) lk hcg Sg room.toRoom I1.env0 (hb s1 [.ref f] I1.kIn rfl) (.cons rfl .nil) rfl fun _ => ?_
    obtain ⟨t', ht', hq'⟩ := hG f cA s1 H1 Q (fun E H' Q' => t E σ H' Q') (fun W E pn xe p1 p2 tk => actG I1 L stands un1 un2 (none_bound _ _ _ _ _) tk (room.deeper _) (fun B out s H r2 => hbody B out s H E f cA r2) hNg hva d1 d2) code (want H1 grown tabs1)
    exact ⟨t', ht'.nox, hq'⟩
  · match res, got with
    | .error e, got => exact (show False from got).elim
    | .ok (.ret u), got => exact I1.after got
end
end Dl
set_option Elab.async false
set_option maxRecDepth 100000
set_option linter.all false
set_option autoImplicit false
set_option maxHeartbeats 1000000
namespace Dl
open PySem PySem.Spec PyProof.Rows L2 LamX
variable [TabF]
/-! ### a def that tells what the lambda gives, or how it is refused -/
/-- what a clause tells: a tuple of words and fields, or one field -/
inductive Out
  | tup (ps : List Part)
  | fld (f : Str)
  | non
structure HndO where
  cls : Str
  ie : Nat
  out : Out
def Out.val (x : Xn) : Out → Option Px
  | .tup ps => (partsV x ps).map .tuple
  | .fld f => x.fields.lookup f
  | .non => some .none
def heardX : List HndO → Xn → (Px → Prop) → Prop
  | [], _, _ => False
  | h :: r, x, k => if x.cls = h.cls then (∃ d, h.out.val x = some d ∧ k d) else heardX r x k
/-- what a lambda sees: what may change is not seen -/
def dropO : Option Rv → Option Rv
  | some (.own _) => none
  | some (.dic _) => none
  | o => o
def Cf.lam (c : Cf) : Cf := ⟨c.env.map dropO, none⟩
def wrapR : Bool → Px → Rv
  | true, d => .d (.tuple [.str "told", d])
  | false, d => .own [d]
/-- x(lambda: body) -/
def eHeard (wrap : Bool) (fb : WE) (ns : List Str) (hs : List HndO) : WE := fun c P _ => fb c.lam (fun r _ => asD r fun d => P (wrapR wrap d) c) fun x _ => x.cls ∈ ns ∧ heardX hs x fun d => P (.d d) c
/-! #### of the heap -/
def wrapQ : Bool → VK → VK
  | true, Q => fun v G => ∀ p, G p = none → Q (.ref p) (upd G p (.tup [.str "told", v]))
  | false, Q => fun v G => ∀ p, G p = none → Q (.ref p) (upd G p (.lst [v]))
def vOut (fs : List (Str × V)) : List Part → Option (List V)
  | [] => some []
  | .st s :: r => (vOut fs r).map (.str s :: ·)
  | .fl f :: r => match fs.lookup f, vOut fs r with
    | some v, some l => some (v :: l)
    | _, _ => none
def outQ (fs : List (Str × V)) (H : Hp) (Q : VK) : Out → Prop
  | .tup ps => ∃ vs, vOut fs ps = some vs ∧ vs.length ≤ 1000 ∧ ∀ p, H p = none → Q (.ref p) (upd H p (.tup vs))
  | .fld f => ∃ v, fs.lookup f = some v ∧ Q v H
  | .non => Q .non H
def hQ (K : PySem.W.Frag) : List (Addr × HndO) → Value → Option Addr → Hp → VK → Prop
  | [], _, _, _, _ => False
  | h :: r, cls, d, H, Q => ∃ hit, PySem.W.exmOne K cls (.ref h.1) = some hit ∧ (hit = true → cls = .ref h.1 ∧ ∃ dd fs, d = some dd ∧ H dd = some (.xd fs) ∧ outQ fs H Q h.2.out) ∧ (hit = false → hQ K r cls d H Q)
def TTh (K : PySem.W.Frag) (wrap : Bool) (hs : List (Addr × HndO)) : (XK → Hp → VK → Prop) → Hp → VK → Prop := fun tl H Q => ∃ Ech : XK, tl Ech H (wrapQ wrap Q) ∧ ∀ cls d H', Ech cls d H' → hQ K hs cls d H' Q
/-- a clause's suite: NAME = .. -/
def claO (j : Nat) (C : Addr) (h : HndO) : Addr → Value → Option Addr → TS := match h.out with
  | .tup ps => claTT C ⟨h.cls, h.ie, j, ps⟩
  | .fld f => claT C ⟨h.cls, h.ie, some (j, f)⟩
  | .non => fun _ _ _ => tAsg (tC .non) (gName j)
def claLO (j : Nat) (hs : List (Addr × HndO)) : List Cla := hs.map fun h => (.ref h.1, h.2.ie, claO j h.1 h.2)
theorem parts_runV {a dd C : Addr} {cls : Value} {ie : Nat} {fs : List (Str × V)} {H : Hp} {σ : L2.St} (hv : σ[ie]? = some (some (.ref a))) (hc : cls = .ref C) (hd : H dd = some (.xd fs)) :
    ∀ (ps : List Part) (vs : List V), vOut fs ps = some vs → ∀ Q : List V → Hp → Prop, Q vs H → tParts a cls (some dd) C ie ps σ H Q
  | [], vs, e, Q, q => by
    cases e
    exact q
  | .st s :: r, vs, e, Q, q => by
    simp only [vOut] at e
    cases er : vOut fs r with
    | none => rw [er] at e; cases e
    | some l =>
      rw [er] at e
      cases e
      exact parts_runV hv hc hd r l er _ q
  | .fl f :: r, vs, e, Q, q => by
    simp only [vOut] at e
    cases ef : fs.lookup f with
    | none => rw [ef] at e; cases e
    | some v =>
      cases er : vOut fs r with
      | none => rw [ef, er] at e; cases e
      | some l =>
        rw [ef, er] at e
        cases e
        exact ⟨.ref a, hv, rfl, hc, dd, fs, v, rfl, hd, ef, parts_runV hv hc hd r l er _ q⟩
/-- the clauses, by what is told of them -/
theorem wTry_of {K : PySem.W.Frag} {D : Ends} {j : Nat} {σ : L2.St} {Q : VK} (hj : j < σ.length) (hD : ∀ τ G v, τ[j]? = some (some v) → Q v G → D.nx τ G) :
    ∀ (hs : List (Addr × HndO)), (∀ h ∈ hs, h.2.ie < σ.length ∧ h.2.ie ≠ j) → ∀ {cls : Value} {d : Option Addr} {H : Hp}, hQ K hs cls d H Q → wTry K (fun _ _ _ _ => False) D (claLO j hs) cls d σ H
  | [], _, _, _, _, h => h.elim
  | h :: r, hl, cls, d, H, hq => by
    obtain ⟨hit, e1, e2, e3⟩ := hq
    refine ⟨hit, e1, fun ht a na => ?_, fun hf => wTry_of hj hD r (fun x hx => hl x (.tail _ hx)) (e3 hf)⟩
    obtain ⟨rfl, dd, fs, rfl, hdd, ho⟩ := e2 ht
    obtain ⟨l1, l2⟩ := hl h (.head _)
    show claO j h.1 h.2 a _ _ _ _ _
    have slot : (σ.set h.2.ie (some (V.ref a)))[h.2.ie]? = some (some (V.ref a)) := by rw [List.getElem?_set_self l1]
    have fin : ∀ (v : V) (G : Hp), Q v G → (endsA D h.2.ie).nx ((σ.set h.2.ie (some (V.ref a))).set j (some v)) G := fun v G q => by
      refine hD _ _ v ?_ q
      rw [List.getElem?_set_ne l2, List.getElem?_set_self (by rw [List.length_set]; exact hj)]
    unfold claO
    cases hout : h.2.out with
    | tup ps =>
      rw [hout] at ho
      obtain ⟨vs, q1, q2, q3⟩ := ho
      show tAsg (tTup (tParts a _ _ h.1 h.2.ie ps)) (gName j) _ _ _
      refine parts_runV slot rfl hdd ps vs q1 _ ⟨line_of (by omega), fun p hp => fin _ _ (q3 p hp)⟩
    | fld f =>
      rw [hout] at ho
      obtain ⟨v, q1, q2⟩ := ho
      show tAsg (tXf a _ _ h.1 f (tVar h.2.ie)) (gName j) _ _ _
      exact ⟨.ref a, slot, rfl, rfl, dd, fs, v, rfl, hdd, q1, fin _ _ q2⟩
    | non =>
      rw [hout] at ho
      exact fin _ _ ho
section
variable {X : Cx}
/-- the def: try: NAME = ("told", a()) / NAME = [a()], clauses; return NAME -/
theorem heard_tup {Ng : List Str} {x a q xi : Str} {sg : Scope} {g : Addr} {cdg : Value} {i kk kt : Nat} {h1 : ExceptHandler} {hds : List ExceptHandler} {hs : List (Addr × HndO)} {p1 p2 p3 p4 p5 p6 p7 p8 p9 : Pos}
    (h0 : ∀ f : Addr, (L2.start Ng [V.ref f])[0]? = some (some (V.ref f))) (nd : Ng.Nodup) (hi : Ng[i]? = some xi) (hx : Loc sg xi) (hl : ∀ h ∈ hs, h.2.ie < Ng.length ∧ h.2.ie ≠ i) (hNg : 1 ≤ Ng.length)
    (hh : ∀ (s : Shared) (H : Hp), Clas (cxOf C8.CX0 X.prog X.w X.K X.mg X.base Ng x sg g cdg X.A X.stack s H C8.E0).nox (h1 :: hds) (claLO i hs))
    (db : (xi == ("__debug__" : Str)) = false) (dc : (xi == ("__classdict__" : Str)) = false) (hsw : ∀ (s : Shared) (H : Hp), swapsWith (.Tuple [.Constant (.str "told") kk p1, .Call (.Name a p2) [] [] p3] kt p4) (some (.Name xi p5)) p6.line (cxOf C8.CX0 X.prog X.w X.K X.mg X.base Ng x sg g cdg X.A X.stack s H C8.E0).nox.env = pure false) :
    GivesG X Ng x a q sg g cdg [.Try [.Assign [.Name xi p5] (.Tuple [.Constant (.str "told") kk p1, .Call (.Name a p2) [] [] p3] kt p4) p6] (h1 :: hds) [] [] p7, .Return (some (.Name xi p8)) p9] (TTh X.K true hs) := by
  intro f c' s H Q tl Y act hc ⟨Ech, h2, h3⟩
  have li : i < Ng.length := (List.getElem?_eq_some_iff.mp hi).1
  have ls : (L2.start Ng [V.ref f]).length = Ng.length := by
    unfold L2.start
    simp
    omega
  have vis : Vis sg xi := hx.elim .inl fun z => .inr (.inl z)
  refine ⟨_, pss_cons (ps_tryA (X := (cxOf C8.CX0 X.prog X.w X.K X.mg X.base Ng x sg g cdg X.A X.stack s H C8.E0).nox) (l := claLO i hs) (W0 := fun _ _ _ _ => False)
      (tb := fun W => tAsg (tTup (tCons (tC (.str "told")) (tCons (fun σ H Q => ∃ E : XK, (∀ cls d H', E cls d H' → W cls d σ H') ∧ σ[0]? = some (some (.ref f)) ∧ H c' = some (CodeO c' q) ∧ tl E H Q) tNil))) (gName i)) rfl rfl nd takes_no (fun W pn xe tk => ?_) (hh s H))
    (pss_one (ps_ret (pe_var (X := (cxOf C8.CX0 X.prog X.w X.K X.mg X.base Ng x sg g cdg X.A X.stack s H C8.E0).nox) (i := i) hi vis db dc))), ?_⟩
  · have act' : PE ((cxOf C8.CX0 X.prog X.w X.K X.mg X.base Ng x sg g cdg X.A X.stack s H C8.E0).nox.tr pn xe) (.Call (.Name a p2) [] [] p3) (fun σ H Q => ∃ E : XK, (∀ cls d H', E cls d H' → W cls d σ H') ∧ σ[0]? = some (some (.ref f)) ∧ H c' = some (CodeO c' q) ∧ tl E H Q) :=
      ⟨fun pins s' σ H' Q' I ⟨E, h'⟩ => (act W E pn xe p2 p3 tk).run pins s' σ H' Q' I h'⟩
    exact pss_one (ps_set (X := (cxOf C8.CX0 X.prog X.w X.K X.mg X.base Ng x sg g cdg X.A X.stack s H C8.E0).nox.tr pn xe) nd hi hx (pe_tup (pa_cons pe_str (pa_cons act' pa_nil))) (hsw s H) (.inl rfl))
  · have fin : ∀ (τ : L2.St) (G : Hp) (v : V), τ[i]? = some (some v) → Q v G → tRet (tVar i) { nx := fun _ H' => Q .non H', rt := Q } τ G := fun τ G v e q => ⟨v, e, q⟩
    refine ⟨Ech, fun cls d H' he => wTry_of (Q := Q) (by rw [ls]; exact li) fin hs (fun h hm => by rw [ls]; exact hl h hm) (h3 cls d H' he), h0 f, hc, ?_⟩
    have h2' : tl Ech H (fun v G => ∀ p, G p = none → Q (.ref p) (upd G p (.tup [.str "told", v]))) := h2
    refine cast (congrArg (tl Ech H) ?_) h2'
    funext v G
    refine propext ⟨fun hq => ⟨(by decide : 2 ≤ sizeLine), fun p hp => ⟨_, by rw [List.getElem?_set_self (by rw [ls]; exact li)], hq p hp⟩⟩, fun hq p hp => ?_⟩
    obtain ⟨v', e1, e2⟩ := hq.2 p hp
    rw [List.getElem?_set_self (by rw [ls]; exact li)] at e1
    cases e1
    exact e2
end
section
variable {X : Cx} {Δ : Dx} {am : Addr} {F : Hp} {σ : L2.St} {H H1 : Hp} {c : Cf}
theorem Ok.grown (k : Ok Δ am F σ H c) (e : ExtN H H1) (t : Tabs Δ.T H1) : Ok Δ am F σ H1 c where
  fh := fun a o h => e a o (k.fh a o h) fun ps z => k.tb.2.1 a ps (z ▸ h)
  f0 := k.f0
  fr := k.fr
  tb := ⟨t, k.tb.2⟩
  pr := fun a o h n => e a o (k.pr a o h n) fun ps z => k.tb.2.2 a ps (z ▸ h)
  al := fun a h => by
    obtain ⟨⟨o, h1, h2⟩, h3⟩ := k.al a h
    exact ⟨⟨o, e a o h1 h2, h2⟩, h3⟩
  gn := fun n h => by
    obtain ⟨h1, h2, left, sd, sp, ac, ns, h3, h4⟩ := k.gn n h
    exact ⟨h1, h2, left, sd, sp, ac, ns, e _ _ h3 dK_ok.1, h4⟩
  len := k.len
  sv := fun i r h => by
    obtain ⟨v, h1, h2⟩ := k.sv i r h
    refine ⟨v, h1, ?_⟩
    cases r with
    | d x => exact h2
    | gen => exact h2
    | scr ns => exact h2
    | own xs =>
      obtain ⟨a, vs, e1, e2, e3⟩ := h2
      exact ⟨a, vs, e1, e _ _ e2 lst_ok.1, e3⟩
    | dic D =>
      obtain ⟨a, o, e1, e2, e3, e4, e5⟩ := h2
      exact ⟨a, o, e1, e _ _ e2 e5.ntbl, e3, e4, e5⟩
  di := k.di
/-- what the lambda's body is run over -/
def dxL (K : PySem.W.Frag) (mg : Str → Option Value) (am : Addr) (F H : Hp) (E : XK) : Dx := { dx0 K am none F H with XE := fun y _ _ F' H' => ∀ cls d, XR mg F' H' y cls d → E cls d H' }
theorem lam_get {o : Option Rv} {r : Rv} (h : dropO o = some r) : o = some r ∧ ¬ r.mu := by
  unfold dropO at h
  split at h
  · cases h
  · cases h
  · rename_i n1 n2
    subst h
    refine ⟨rfl, fun z => ?_⟩
    cases r with
    | own xs => exact n1 xs rfl
    | dic D => exact n2 D rfl
    | d x => exact z
    | gen => exact z
    | scr ns => exact z
theorem Ok.lam (k : Ok Δ am F σ H c) (mg : Str → Option Value) (E : XK) : Ok (dxL Δ.K mg am F H E) am F σ H c.lam where
  fh := k.fh
  f0 := Le.refl F
  fr := fun a h => .inl h
  tb := ⟨k.tb.1, k.tb.2.1, unT_not H⟩
  pr := fun a o h _ => unT_of h
  al := fun a h => nomatch h
  gn := fun n h => nomatch h
  len := by
    show σ.length = (c.env.map dropO).length
    rw [List.length_map]
    exact k.len
  sv := fun i r h => by
    have h : (c.env.map dropO)[i]? = some (some r) := h
    rw [List.getElem?_map] at h
    cases q : c.env[i]? with
    | none => rw [q] at h; cases h
    | some o =>
      rw [q] at h
      obtain ⟨rfl, nm⟩ := lam_get (Option.some.inj h)
      obtain ⟨v, h1, h2⟩ := k.sv i r q
      refine ⟨v, h1, ?_⟩
      cases r with
      | d x => exact h2
      | gen => exact h2
      | scr ns => exact h2
      | own xs => exact absurd True.intro nm
      | dic D => exact absurd True.intro nm
  di := fun i j r r' n e1 e2 m1 m2 => by
    have e1 : (c.env.map dropO)[i]? = some (some r) := e1
    rw [List.getElem?_map] at e1
    cases q : c.env[i]? with
    | none => rw [q] at e1; cases e1
    | some o =>
      rw [q] at e1
      exact absurd m1 (lam_get (Option.some.inj e1)).2
theorem val_out {x : Xn} {fs : List (Str × V)} (flds : ∀ f p, x.fields.lookup f = some p → ∃ v, fs.lookup f = some v ∧ Rp F v p) : ∀ (ps : List Part) (l : List Px), partsV x ps = some l → ∃ vs, vOut fs ps = some vs ∧ RpA F vs l ∧ vs.length = ps.length
  | [], l, e => by
    cases e
    exact ⟨[], rfl, .nil, rfl⟩
  | .st s :: r, l, e => by
    simp only [partsV] at e
    cases er : partsV x r with
    | none => rw [er] at e; cases e
    | some l' =>
      rw [er] at e
      cases e
      obtain ⟨vs, h1, h2, h3⟩ := val_out flds r l' er
      exact ⟨.str s :: vs, by simp only [vOut, h1]; rfl, .cons (.str s) h2, by simp [h3]⟩
  | .fl f :: r, l, e => by
    simp only [partsV] at e
    cases ef : x.fields.lookup f with
    | none => rw [ef] at e; cases e
    | some p =>
      cases er : partsV x r with
      | none => rw [ef, er] at e; cases e
      | some l' =>
        rw [ef, er] at e
        cases e
        obtain ⟨v, fv, rv⟩ := flds f p ef
        obtain ⟨vs, h1, h2, h3⟩ := val_out flds r l' er
        exact ⟨v :: vs, by simp only [vOut, fv, h1], .cons rv h2, by simp [h3]⟩
def SeenO (K : PySem.W.Frag) (mg : Str → Option Value) (ns : List Str) (hs : List (Addr × HndO)) : Prop := ∀ n ∈ ns, ∃ C, mg n = some (.ref C) ∧ ∀ h ∈ hs, PySem.W.exmOne K (.ref C) (.ref h.1) = some (decide (n = h.2.cls)) ∧ (n = h.2.cls → C = h.1)
def Out.short : Out → Prop
  | .tup ps => ps.length ≤ 1000
  | .fld _ => True
  | .non => True
/-- THE RULE for x(lambda: body) -/
theorem de_heard {T : List (Addr × Str)} {e : Expr} {wrap : Bool} {fb : WE} {ns : List Str} {hs : List (Addr × HndO)} (hT : TabF.T X.K = T) (hK : Δ.K = X.K) (sn : SeenO X.K X.mg ns hs) (sh : ∀ h ∈ hs, h.2.out.short)
    (hp : PE X e (tLam T (TTh X.K wrap hs) fun E σ H Q => ∃ am F H0, tE (dxL X.K X.mg am F H0 E) fb σ H Q)) : PE X e (tE Δ (eHeard wrap fb ns (hs.map (·.2)))) := by
  refine hp.imp fun σ H Q ⟨am, F, c, P, XX, ok, hf, kq, kx⟩ => ?_
  have eT : Δ.T = T := (congrArg TabF.T hK).trans hT
  refine ⟨fun p hp => ok.tb.1 p (eT ▸ hp), fun H1 eN tabs => ?_⟩
  have ok1 := ok.grown eN (fun p hp => tabs p (eT ▸ hp))
  let Ech : XK := fun cls d H' => ∃ y F', y.cls ∈ ns ∧ heardX (hs.map (·.2)) y (fun z => P (.d z) c) ∧ Le F F' ∧ Ok Δ am F' σ H' c ∧ XR X.mg F' H' y cls d
  refine ⟨Ech, ⟨am, F, H1, ?_⟩, ?_⟩
  · rw [← hK]
    refine ⟨am, F, c.lam, _, _, ok1.lam X.mg Ech, hf, fun r c1 F1 v H2 p1 l1 o1 s1 => ?_, fun y g F' H' p1 l1 fn cls d xr => ?_⟩
    · obtain ⟨x, F2, p2, l2, o2, rv⟩ := s1.data o1 p1
      have fn := o2.fin
      have ok2 := ok1.on (l1.trans l2) (g' := c1.g) (am' := am) (H' := H2) ⟨fn.fh, fn.f0, fn.fr, fn.tb, fn.pr, fn.al, fn.gn⟩
      cases wrap with
      | true =>
        intro p hp
        obtain ⟨o3, l3, rp⟩ := ok2.tupN hp (.cons (.str "told") (.cons rv .nil))
        exact kq _ c _ _ _ p2 ((l1.trans l2).trans l3) o3 (.of rp)
      | false =>
        intro p hp
        exact kq _ c _ _ _ p2 (l1.trans l2) (ok2.alloc hp (.lst [v])) (Rs.fresh ok2 hp (.cons rv .nil)).2
    · exact ⟨y, F', p1.1, p1.2, l1, ok1.on (g' := g) (am' := am) l1 ⟨fn.fh, fn.f0, fn.fr, fn.tb, fn.pr, fn.al, fn.gn⟩, xr⟩
  · rintro cls d H' ⟨y, F', yn, hx, l1, ok2, CA, dd, fs, m1, rfl, rfl, hdd, flds⟩
    obtain ⟨C2, m2, look⟩ := sn _ yn
    cases m1.symm.trans m2
    have key : ∀ l : List (Addr × HndO), (∀ h ∈ l, h.2.out.short) → heardX (l.map (·.2)) y (fun z => P (.d z) c) → (∀ h ∈ l, PySem.W.exmOne X.K (.ref CA) (.ref h.1) = some (decide (y.cls = h.2.cls)) ∧ (y.cls = h.2.cls → CA = h.1)) → hQ X.K l (.ref CA) (some dd) H' Q := by
      intro l
      induction l with
      | nil => exact fun _ z _ => False.elim z
      | cons h r ih =>
        intro sh qt look
        obtain ⟨ex, same⟩ := look h (.head _)
        have qt : heardX (h.2 :: r.map (·.2)) y (fun z => P (.d z) c) := qt
        unfold heardX at qt
        refine ⟨_, ex, fun hit => ?_, fun no => ?_⟩
        · have e1 : y.cls = h.2.cls := of_decide_eq_true hit
          rw [if_pos e1] at qt
          obtain ⟨z, q1, q2⟩ := qt
          refine ⟨by rw [same e1], dd, fs, rfl, hdd, ?_⟩
          have sh1 := sh h (.head _)
          cases ho : h.2.out with
          | tup ps =>
            rw [ho] at q1 sh1
            cases er : partsV y ps with
            | none => simp only [Out.val, er] at q1; cases q1
            | some l2 =>
              have q1 : (partsV y ps).map PyData.tuple = some z := q1
              rw [er] at q1
              cases q1
              obtain ⟨vs, h1, h2, h3⟩ := val_out flds ps l2 er
              refine ⟨vs, h1, by rw [h3]; exact sh1, fun p hp => ?_⟩
              obtain ⟨o4, l4, rp⟩ := ok2.tupN hp h2
              exact kq _ c _ _ _ q2 (l1.trans l4) o4 (.of rp)
          | fld f =>
            rw [ho] at q1
            obtain ⟨v, fv, rv⟩ := flds f z q1
            exact ⟨v, fv, kq _ c _ _ _ q2 l1 ok2 (.of rv)⟩
          | non =>
            rw [ho] at q1
            cases q1
            exact kq _ c _ _ _ q2 l1 ok2 (.of .non)
        · have e1 : ¬ y.cls = h.2.cls := of_decide_eq_false no
          rw [if_neg e1] at qt
          exact ih (fun x hx => sh x (.tail _ hx)) qt fun h' m => look h' (.tail _ m)
    exact key hs sh hx look
/-- the lambda's body, read over what it sees -/
theorem lam_body {B : Around} {out : List Env} {s : Shared} {H : Hp} {E : XK} {scope : Scope} {f cA : Addr} {body : Expr} {fb : WE} {K : PySem.W.Frag} (hK : X.K = K)
    (h : ∀ Δ' : Dx, Δ'.K = K → Takes (lamCx X B out s H E scope f cA) (WD X.mg Δ') → PE (lamCx X B out s H E scope f cA) body (tE Δ' fb)) :
    PE (lamCx X B out s H E scope f cA) body fun σ H Q => ∃ am F H0, tE (dxL X.K X.mg am F H0 E) fb σ H Q :=
  ⟨fun pins s' σ H' Q I ⟨am, F, H0, z⟩ => (h (dxL X.K X.mg am F H0 E) hK ((takes_of (X := lamCx X B out s H E scope f cA) (E := E) rfl rfl rfl rfl).imp fun cls d σ H ⟨y, g', am', F', fn, xr, ex⟩ => ex cls d xr)).run pins s' σ H' Q I z⟩
end
end Dl
set_option Elab.async false
set_option maxRecDepth 100000
set_option linter.all false
set_option autoImplicit false
set_option maxHeartbeats 1000000
namespace Dl
open PySem PySem.Spec PyProof.Rows L2 LamX
variable [TabF]
/-! ### the end of a law whose defs hand lambdas on -/
def emptyT : Obj := { cls := .none, data := .fields #[] }
/-- the script's list and the empty tables: nothing else is tracked -/
def OnlyT (ts : List Addr) (H : Hp) : Prop := (∀ b ∈ ts, H b = some (.tbl #[])) ∧ ∀ b, H b = none ∨ b ∈ ts ∨ ∃ o xs, H b = some (.frz o (.lst xs))
theorem law_callXT {P : Program} {w : World} {K : PySem.W.Frag} {mg mb : Str → Option Value} {CX : CXT} {k : Nat} {fa a : Addr} {cs : List (Addr × Addr)} {fd : FuncData} {x : Str} {sp : Sp} {s : Shared} {vs : List Value} {ns : List Int}
    (kin : K.In s.heap) (hmg : s.heap.Ns mainGlobals mg) (hmb : s.heap.Ns builtinsNs mb) (boot : ∀ x : Str, x ≠ "__name__" → mb x = bootBuiltins x) (lim : s.heap.NoLimit) (gens : s.gens = #[])
    (tabs : ∀ p ∈ cs, s.heap.get? p.2 = some emptyT) (outK : ∀ p ∈ cs, K.lookup p.2 = none) (codes : ∀ p ∈ cs, PySem.W.CodeHd s.heap p.1 p.2)
    (hbm : ∃ (bm : Addr) (ob : Obj), mg "__builtins__" = some (.ref bm) ∧ bm ≠ builtinsNs ∧ s.heap.get? bm = some ob ∧ ob.cls = .type "module" ∧ ob.dict = some builtinsNs ∧ ob.data = .plain)
    (ha : s.heap.get? a = some { cls := .type "list", data := .seq vs.toArray }) (hi : IntsAre vs ns) (hl : ns.length ≤ sizeLine) (hr : RoomG k callerA)
    (F : ∀ base : Heap, K.In base → base.Ns mainGlobals mg → (∀ p ∈ cs, TabB base mg p.1 p.2) → FnG P w K mg base CX k fa fd [x] sp) (bind : ∀ (s : Shared) (u : Value), BindsTo s fd ⟨[u], []⟩ [(x, u)])
    (hsp : ∀ H : Hp, OnlyT (cs.map (·.2)) H → SqL K H a (ns.map V.int) → sp [.ref a] H (fun v _ => v = .bl true) fun _ _ _ => False)
    (hCX : ∀ H e s', CX [] H s (fun _ _ _ => False) e s' → False) :
    codeAny (model P w) callerA (.call (.ref fa) ⟨[.ref a], []⟩) (fun r s' => r = .ok (.ret (.bool true)) ∧ OldK s.heap s'.heap ∧ s'.os = s.os ∧ AllBare s'.gens) s := by
  let ts := cs.map (·.2)
  let L : Obj := { cls := .type "list", data := .seq vs.toArray }
  have tab_at : ∀ b ∈ ts, s.heap.get? b = some emptyT ∧ K.lookup b = none := fun b hb => by
    obtain ⟨p, hp, rfl⟩ := List.mem_map.mp hb
    exact ⟨tabs p hp, outK p hp⟩
  have a_no : a ∉ ts := fun z => by
    have e := (tab_at a z).1
    rw [ha] at e
    have e2 : Data.seq vs.toArray _ = Data.fields #[] := congrArg Obj.data (Option.some.inj e)
    cases e2
  let H : Hp := fun b => if b ∈ ts then some (.tbl #[]) else if b = a ∧ K.lookup a = none then some (.frz L (.lst (ns.map V.int))) else none
  have at_t : ∀ b ∈ ts, H b = some (.tbl #[]) := fun b hb => if_pos hb
  have hH : ∀ b u, H b = some u → (b ∈ ts ∧ u = .tbl #[]) ∨ (b = a ∧ K.lookup a = none ∧ u = .frz L (.lst (ns.map V.int))) := fun b u z => by
    by_cases q0 : b ∈ ts
    · exact .inl ⟨q0, (Option.some.inj ((if_pos q0).symm.trans z)).symm⟩
    · have z := (if_neg q0).symm.trans z
      by_cases q : b = a ∧ K.lookup a = none
      · exact .inr ⟨q.1, q.2, (Option.some.inj ((if_pos q).symm.trans z)).symm⟩
      · cases (if_neg q).symm.trans z
  have only : OnlyT ts H := ⟨at_t, fun b => by
    cases q : H b with
    | none => exact .inl rfl
    | some u =>
      rcases hH b u q with z | z
      · exact .inr (.inl z.1)
      · exact .inr (.inr ⟨_, _, congrArg some z.2.2⟩)⟩
  have rv := vals_ints hi
  have hsz : (ns.map V.int).length ≤ sizeLine := by rw [List.length_map]; exact hl
  have sq : SqL K H a (ns.map V.int) := by
    cases q : K.lookup a with
    | none => exact .inl (.inr ⟨L, (if_neg a_no).trans (if_pos ⟨rfl, q⟩)⟩)
    | some o =>
      have e := kin a o q
      rw [ha] at e
      cases e
      exact .inr ⟨_, vs.toArray, _, q, rfl, rfl, rfl, by rw [List.size_toArray, hi.length]; exact hl, by simpa using rv⟩
  have hok : HOk P w H s.heap := fun b u z => by
    rcases hH b u z with ⟨h1, rfl⟩ | ⟨rfl, _, rfl⟩
    · exact (tab_at b h1).1
    · exact ⟨ha, hsz, vs, _, rv, ha⟩
  have base_of : ∀ {b : Addr} {o : Obj}, s.heap.get? b = some o → H b = none → (hidT s.heap H).get? b = some o := fun e n => hidT_get e n
  have other : ∀ {b : Addr} {o : Obj}, s.heap.get? b = some o → (∀ vs n, o.data ≠ .seq vs n) → o.data ≠ .fields #[] → H b = none := fun {b o} e d d2 => by
    cases q : H b with
    | none => rfl
    | some u =>
      rcases hH b u q with ⟨h1, _⟩ | ⟨rfl, _, _⟩
      · rw [(tab_at b h1).1] at e
        cases e
        exact absurd rfl d2
      · rw [ha] at e
        cases e
        exact absurd rfl (d _ _)
  have ns_of : ∀ {b : Addr} {m : Str → Option Value}, s.heap.Ns b m → (hidT s.heap H).Ns b m := fun {b m} ⟨o, es, ep, e, d, r⟩ => ⟨o, es, ep, base_of e (other e (fun vs n z => (by rw [d] at z; cases z)) fun z => (by rw [d] at z; cases z)), d, r⟩
  have kb : K.In (hidT s.heap H) := fun b o e => base_of (kin b o e) (by
    cases q : H b with
    | none => rfl
    | some u =>
      rcases hH b u q with ⟨h1, _⟩ | ⟨rfl, z, _⟩
      · rw [(tab_at b h1).2] at e
        cases e
      · rw [z] at e
        cases e)
  have TB : ∀ p ∈ cs, TabB (hidT s.heap H) mg p.1 p.2 := fun p hp => by
    have tp := tabs p hp
    have gP : mainGlobals ≠ p.2 := fun z => by
      obtain ⟨o, es, ep, e, d, _⟩ := hmg
      rw [z, tp] at e
      cases e
      cases d
    refine ⟨?_, ?_, gP⟩
    · obtain ⟨o, us, file, tf, flags, tg, inF, text, tt, e1, r1, r2, r3, rest⟩ := codes p hp
      exact ⟨o, us, file, tf, flags, tg, inF, text, tt, base_of e1 (other e1 (fun vs n z => by rw [r2] at z; cases z) fun z => by rw [r2] at z; cases z; simp at r3), r1, r2, r3, rest⟩
    · obtain ⟨bm, ob, b1, b2, b3, b4, b5, b6⟩ := hbm
      have n1 : bm ≠ mainGlobals := fun q => by
        obtain ⟨o, es, ep, e, d, _⟩ := hmg
        rw [q, e] at b3
        cases b3
        rw [d] at b6
        cases b6
      have n2 : bm ≠ p.2 := fun q => by
        rw [q, tp] at b3
        cases b3
        cases b6
      exact ⟨bm, ob, b1, b2, n1, n2, base_of b3 (other b3 (fun vs n z => by rw [b6] at z; cases z) fun z => by rw [b6] at z; cases z), b4, b5, b6⟩
  have e0 : Env0 P w K mg (hidT s.heap H) callerA [] s H :=
    ⟨rfl, ⟨kb, ns_of hmg, ⟨mb, ns_of hmb, boot⟩, let ⟨mc, h1, h2⟩ := lim; ⟨mc, ns_of h1, h2⟩⟩, fun b o e => of_hidT e, Nat.le_of_eq (hidT_size _ _), trivial, fun b hb => (by cases hb), hok, .of_eq gens⟩
  refine codeAny_mono ((F _ kb (ns_of hmg) TB).run (us := [.ref a]) (vs := [.ref a]) hr e0 (bind s (.ref a)) (.cons rfl .nil) (hsp H only sq)) fun r s' got => ?_
  match r, got with
  | .error e, got => exact (hCX H e s' got).elim
  | .ok (.ret u), ⟨v, H', os, bare, un, hok', ru, qv⟩ =>
    have qv : v = .bl true := qv
    subst qv
    obtain rfl : u = Value.bool true := ru
    have stay : ∀ b o, b ∉ ts → s.heap.get? b = some o → s'.heap.get? b = some o := fun b o nb e => by
      cases q : H b with
      | none => exact un.keep b o e q (fun z => by cases z) (fun z => by cases z)
      | some u =>
        rcases hH b u q with ⟨h1, _⟩ | ⟨rfl, _, rfl⟩
        · exact absurd h1 nb
        · obtain ⟨e2, _⟩ := hok' b _ (un.frzs b L _ q)
          rw [ha] at e
          cases e
          exact e2
    have more : ∀ b ∈ ts, ∃ l : Array Value, s'.heap.get? b = some { cls := .none, data := .fields l } := fun b hb => by
      obtain ⟨l, z⟩ := un.tbls b #[] (at_t b hb)
      exact ⟨_, hok' b _ z⟩
    refine ⟨rfl, ⟨fun b o e => ?_, fun b o e => ?_⟩, os, bare⟩
    · by_cases hb : b ∈ ts
      · obtain ⟨l, hm⟩ := more b hb
        obtain ⟨p, hp, rfl⟩ := List.mem_map.mp hb
        have tp := tabs p hp
        rw [e] at tp
        cases tp
        exact .inr (.inl ⟨((codes p hp).tab (tabs p hp)).isCodeTable, rfl, #[], l, rfl, by rw [Array.empty_append]; exact hm⟩)
      · exact .inl (stay b o hb e)
    · by_cases hb : b ∈ ts
      · obtain ⟨l, hm⟩ := more b hb
        exact ⟨_, hm⟩
      · exact ⟨o, stay b o hb e⟩
theorem walkXT {l : PySem.W.OpenLaw} {n k : Nat} {q : Program} {loose : List Str} {XP : (Str → Option Value) → Heap → Prop} {YP : World → Heap → Prop} {d : DefRec} {CX : CXT} {x : Str}
    (h1 : l.most = some n) (h2 : n ≤ sizeLine) (h3 : d.params.defaults = []) (hr : RoomG k callerA)
    (F : ∀ (w : World) (mg : Str → Option Value) (fa : Addr) (h : Heap), YP w h → h.Ns mainGlobals mg → mg d.name = some (.ref fa) →
      ∃ (K : PySem.W.Frag) (fd : FuncData) (sp : Sp) (cs : List (Addr × Addr)), K.In h ∧ (∀ (s : Shared) (u : Value), BindsTo s fd ⟨[u], []⟩ [(x, u)]) ∧ (∀ p ∈ cs, h.get? p.2 = some emptyT) ∧ (∀ p ∈ cs, K.lookup p.2 = none) ∧ (∀ p ∈ cs, PySem.W.CodeHd h p.1 p.2) ∧
        (∀ (H : Hp) (a : Addr) (ns : List Int), ns.length ≤ n → OnlyT (cs.map (·.2)) H → SqL K H a (ns.map V.int) → sp [.ref a] H (fun v _ => v = .bl true) fun _ _ _ => False) ∧
        ∀ base : Heap, K.In base → base.Ns mainGlobals mg → (∀ p ∈ cs, TabB base mg p.1 p.2) → FnG l.prog w K mg base CX k fa fd [x] sp)
    (hCX : ∀ (H : Hp) (s : Shared) (e : Value) (s' : Shared), CX [] H s (fun _ _ _ => False) e s' → False) : PySem.W.WalkO q loose XP YP l.row.toRowW d [] (fun f vs => PySem.call f vs) := by
  refine Att.attach_call h1 h3 fun w s₀ s₁ mg mb fa o pm cd doc a vs ns G Y ho hd hcd hmg hobj hints hlen hg => ?_
  obtain ⟨K, fd, sp, cs, kx, bind, t1, t2, t3, want, run⟩ := F w mg fa _ Y G.T.g hmg
  exact law_callXT kx G.T.g G.T.b G.T.builtins G.T.nolimit hg t1 t2 t3 G.T.bmain hobj hints (Nat.le_trans hlen h2) hr run bind (fun H o s => want H a ns hlen o s) fun H e s' => hCX H s₁ e s'
end Dl
set_option Elab.async false
set_option maxRecDepth 100000
set_option linter.all false
set_option autoImplicit false
set_option maxHeartbeats 1000000
namespace Dl
open PySem PySem.Spec PyProof.Rows L2 LamX
variable [TabF]
/-! ### defs whose code object is known: they make lambdas -/
section
variable {P : Program} {w : World} {K : PySem.W.Frag} {mg : Str → Option Value} {base : Heap} {f : Addr} {fd : FuncData} {k : Nat}
theorem fnG_ofC {CX : CXT} {x qual : Str} {params : Arguments} {body : List Stmt} {scope : Scope} {dvs : List V} {kws : List (Str × V)} {N ps : List Str} {sp : Sp} (F : FunD K x qual params body scope dvs kws f fd) (S : FnScope N ps scope) (len : ∀ vs H Q E, sp vs H Q E → vs.length = ps.length)
    (hb : ∀ (A : Around) (outer : List Env) (s : Shared) (H : Hp) (vs : List V) (Q : VK) (E : XK), RoomG k (A.deeper (envOfC qual scope s.heap.objs.size f fd.code)) → sp vs H Q E →
      ∃ t, PSs (cxOf CX P w K mg base N qual scope f fd.code A outer s H E) body t ∧ t { nx := fun _ H' => Q .non H', rt := Q } (L2.start N vs) H) : FnG P w K mg base CX (k + 1) f fd ps sp := by
  obtain ⟨_, _, _, _, _, _, _, cdv, _, _, rfl, look, code, _, _⟩ := F.ex
  refine ⟨len, fun {A outer s H args us vs Q E} room e0 bind rel want => ?_⟩
  have stay : ∀ b o, base.get? b = some o → s.heap.get? b = some o := fun b o e => (e0.bs b o e).1
  have kin : K.In s.heap := e0.mod.kin.keeps stay
  refine codeAny_call_function room.depth (kin _ _ look) rfl S.co S.gen rfl (PySem.W.codeRec_of kin code) (bind _ _ _ _ ?_)
  refine wpAny_newFunctionEnv_cells S.kind (fun y hy => ?_) fun env he s1 x => ?_
  · rcases S.par y.1 (List.of_mem_zip hy).1 with q | q
    · exact .inl q
    · exact .inr ⟨q, PySem.W.cellsFrom_some _ _ _ (.inl q)⟩
  · subst he
    obtain ⟨t, run, ok⟩ := hb A outer s H vs Q E (room.deeper _) want
    have I : Inv (cxOf CX P w K mg base N qual scope f cdv A outer s H E) [] (L2.start N vs) H s1 := inv_start S room.hd e0 (len _ _ _ _ want) rel x
    refine ⟨(e0.mod.nolimit.keeps stay).keeps x.toInCall.keep, codeAny_func (wpAny_mono (run.run [] s1 (L2.start N vs) H _ I ok) (fun fl s' got => ?_) fun _ _ got => got)⟩
    have fin : ∀ {σ' : L2.St} {H' : Hp} {v : V} {u : Value}, Inv (cxOf CX P w K mg base N qual scope f cdv A outer s H E) [] σ' H' s' → RelV v u → Q v H' → CE outer P w H s Q u s' := fun J r q => ⟨_, _, J.os, J.bare, J.base, J.hok, r, q⟩
    cases fl with
    | ret u =>
      obtain ⟨_, _, _, J, r, q⟩ := got
      exact fin J r q
    | next =>
      obtain ⟨_, _, J, q⟩ := got
      exact fin (v := .non) (u := .none) J rfl q
    | brk => obtain ⟨_, _, _, q⟩ := got; exact q.elim
    | cont => obtain ⟨_, _, _, q⟩ := got; exact q.elim
theorem def_okC {x qual : Str} {st : Stmt} {N ps : List Str} {Pr : Cn} (nog : Bool) (F : FunD K x qual (defArgs st) (defBody st) (defScope st) [] [] f fd) (S : FnScope N ps (defScope st)) (hmg : mg x = some (.ref f)) (bi : Binds K fd ps [])
    (fw : WS) (len : ∀ rs g Q, Pr rs g Q → rs.length = ps.length) (hn : nog = true → ∀ rs g Q, Pr rs g Q → g = none) (spec : ∀ rs g Q, Pr rs g Q → fw (startC N.length rs g) (endP Q) fun _ _ => False)
    (hbody : ∀ (A : Around) (outer : List Env) (s : Shared) (H : Hp) (E : XK) (Δ : Dx), RoomG k (A.deeper (PyProof.Rows.envOfC qual (defScope st) s.heap.objs.size f fd.code)) → Δ.K = K → (nog = true → Δ.a0 = none) →
      PSs (cxOf CX0 P w K mg base N qual (defScope st) f fd.code A outer s H E).nox (defBody st) (tS Δ fw)) : CalD P w K mg base (k + 1) x Pr := by
  refine ⟨f, fd, ps, fnG_ofC F S (fun vs H Q E h => ?_) (fun A outer s H vs Q E hr h => ?_), hmg, F.kp, bi⟩
  · obtain ⟨am, G, rs, g, q, _, _, _, h3, h4, _⟩ := h
    rw [← h3.length]
    exact len rs g q h4
  · obtain ⟨am, G, rs, g, q, h1, ht, h2, h3, h4, h5⟩ := h
    refine ⟨_, PSs.nox (hbody A outer s H E (dx0 K am g G H) hr rfl (fun z => by rw [hn z rs g q h4]; rfl)), am, G, _, _, _, start_ok h1 ht h2 h3, spec rs g q h4, ⟨fun c am' F' σ' H' p l o => ?_, fun _ _ _ _ _ z => z.elim, fun _ _ _ _ _ z => z.elim, fun r g' am' F' H' v p l fn s => ?_⟩, fun _ _ _ _ _ z => z.elim⟩
    · exact h5 _ _ am' F' _ H' p l o.fin .non
    · exact h5 r g' am' F' v H' p l fn s
end
/-- what a def wants to know of its code object and the table there -/
structure LamK (K : PySem.W.Frag) (base : Heap) (mg : Str → Option Value) (x : Str) (fd : FuncData) (c P : Addr) : Prop where
  code : fd.code = .ref c
  tb : TabB base mg c P
  inT : (P, (x ++ ".<locals>.") ++ "<lambda>") ∈ TabF.T K
  one : ∀ p ∈ TabF.T K, p.1 = P → p.2 = (x ++ ".<locals>.") ++ "<lambda>"
section
variable {X : Cx} {Δ : Dx}
/-- THE RULE for x(lambda: body), x a def of the top that tells what the lambda gives -/
theorem de_lam {x a y : Str} {g c P : Addr} {k : Nat} {st : Stmt} {fd fdy : FuncData} {Ng : List Str} {params : Arguments} {body : Expr} {scope : Scope} {p lpos pos : Pos} {wrap : Bool} {fb : WE} {ns : List Str} {hs : List (Addr × HndO)}
    (lam : LamK X.K X.base X.mg y fdy c P) (hcode : X.env.code = fdy.code) (hq : X.env.qual = y ++ ".<locals>.") (F : FunD X.K x x (defArgs st) (defBody st) (defScope st) [] [] g fd) (hg : Gl X x) (hm : X.mg x = some (.ref g)) (bi : Binds X.K fd [a] []) (Sg : FnScope Ng [a] (defScope st))
    (hNg : Ng[0]? = some a) (hva : Vis (defScope st) a) (hG : ∀ cdv, GivesG X Ng x a (X.env.qual ++ "<lambda>") (defScope st) g cdv (defBody st) (TTh X.K wrap hs)) (hr : RoomG (k + 2) X.A) (hK : Δ.K = X.K) (sn : SeenO X.K X.mg ns hs) (sh : ∀ h ∈ hs, h.2.out.short)
    (L : lamSB X.env.scope scope = true) (hdef : defaultsOf params X.env = ([], []))
    (nb : ∀ (q : Str) (cl : List (Str × Addr)) (pm cv ctv : Value), bindArgs (PySem.W.kla_fn "<lambda>" q params body scope cl pm cv ctv) ⟨[], []⟩ = pure [])
    (hbody : ∀ (B : Around) (out : List Env) (s : Shared) (H : Hp) (E : XK) (f cA : Addr), RoomG k (B.deeper (lamEnv X scope s.heap.objs.size f cA)) → ∀ Δ' : Dx, Δ'.K = X.K → Takes (lamCx X B out s H E scope f cA) (WD X.mg Δ') → PE (lamCx X B out s H E scope f cA) body (tE Δ' fb))
    (hdb : (x == ("__debug__" : Str)) = false := by decide) (d1 : (a == ("__debug__" : Str)) = false := by decide) (d2 : (a == ("__classdict__" : Str)) = false := by decide) :
    PE X (.Call (.Name x p) [.Lambda params body scope lpos] [] pos) (tE Δ (eHeard wrap fb ns (hs.map (·.2)))) := by
  obtain ⟨oc, od, dV, kV, doc, pm, an, cdv, ct, osl, rfl, lk, hcd, _, _⟩ := F.ex
  exact de_heard (T := TabF.T X.K) rfl hK sn sh (lamcallG (t := fun E σ H Q => ∃ am F H0, tE (dxL X.K X.mg am F H0 E) fb σ H Q) hg hm F.kp lk hcd bi Sg hNg hva (hG cdv) lam.tb (hcode.trans lam.code) (hq ▸ lam.inT) (hq ▸ lam.one) hr (lamS_by L) hdef nb
    (fun B out s H E f cA hr2 => lam_body (X := X) rfl fun Δ' e tk => hbody B out s H E f cA hr2 Δ' e tk) hdb d1 d2)
end
/-- of the head -/
theorem lamK_of {K : PySem.W.Frag} {base : Heap} {mg : Str → Option Value} {x : Str} {params : Arguments} {body : List Stmt} {scope : Scope} {fd : FuncData} {p : He.Defn} (F : FunD K x x params body scope [] [] (He.fAd K p) fd) (tb : TabB base mg (He.cT K p).1 (He.cT K p).2)
    (inT : ((He.cT K p).2, (x ++ ".<locals>.") ++ "<lambda>") ∈ TabF.T K) (one : ∀ r ∈ TabF.T K, r.1 = (He.cT K p).2 → r.2 = (x ++ ".<locals>.") ++ "<lambda>") : LamK K base mg x fd (He.cT K p).1 (He.cT K p).2 := by
  refine ⟨?_, tb, inT, one⟩
  obtain ⟨oc, od, dV, kV, doc, pm, an, cdv, ct, osl, rfl, lk, hcd, _, _⟩ := F.ex
  obtain ⟨c, rfl⟩ := He.codeIn_ref hcd
  have := He.codeOf_eq lk (c := c) rfl
  show Value.ref c = Value.ref (He.codeOf K p)
  rw [this]
end Dl
set_option Elab.async false
set_option maxRecDepth 100000
set_option linter.all false
set_option autoImplicit false
set_option maxHeartbeats 1000000
namespace Dl
open PySem L2
variable [TabF]
/-! ### exceptions with two fields -/
def rz2 (rs : List Rv) (k : Px → Px → Prop) : Prop := match rs with
  | [.d p, .d q] => k p q
  | _ => False
theorem rz2_d {p q : Px} {k : Px → Px → Prop} : rz2 [.d p, .d q] k = k p q := rfl
def sRaise2 (x f1 f2 : Str) (fr : WA) : WS := fun c _ X => fr c (fun rs c1 => rz2 rs fun p q => X ⟨x, [(f1, p), (f2, q)]⟩ c1.g) X
/-! ### of runs -/
theorem lam_eq {l : List (Option Rv)} {g : Option Nat} : Cf.lam ⟨l, g⟩ = ⟨l.map dropO, none⟩ := rfl
theorem lamM_n : ([] : List (Option Rv)).map dropO = [] := rfl
theorem lamM_c {o : Option Rv} {l : List (Option Rv)} : (o :: l).map dropO = dropO o :: l.map dropO := rfl
theorem dropO_d {x : Px} : dropO (some (.d x)) = some (.d x) := rfl
theorem dropO_g : dropO (some .gen) = some .gen := rfl
theorem dropO_s {ns : List Int} : dropO (some (.scr ns)) = some (.scr ns) := rfl
theorem dropO_n : dropO none = none := rfl
theorem dropO_o {xs : List Px} : dropO (some (.own xs)) = none := rfl
theorem dropO_k {D : Dic} : dropO (some (.dic D)) = none := rfl
theorem wrapR_t {d : Px} : wrapR true d = .d (.tuple [.str "told", d]) := rfl
theorem wrapR_f {d : Px} : wrapR false d = .own [d] := rfl
end Dl
set_option Elab.async false
set_option maxRecDepth 100000
set_option linter.all false
set_option autoImplicit false
namespace Dl
open PySem L2
variable [TabF]
/-- the law's promise at its entry -/
theorem sp_law {K : PySem.W.Frag} {Pr : Cn} {H : Hp} {a : Addr} {ns : List Int} {E : XK} (tabs : ∀ p ∈ TabF.T K, H p.1 = some (.tbl #[])) (hS : SqL K H a (ns.map V.int)) (hP : Pr [.scr ns] none fun r _ => r = .d (.bool true)) : spD K Pr [.ref a] H (fun v _ => v = .bl true) E := by
  let F : Hp := fun b => if b = a then unT H a else none
  have e : F a = unT H a := if_pos rfl
  have sq : SqL K F a (ns.map V.int) := by
    rcases hS with (h | ⟨o, h⟩) | h
    · exact .inl (.inl (e.trans (unT_to h fun ps z => nomatch z)))
    · exact .inl (.inr ⟨o, e.trans (unT_to h fun ps z => nomatch z)⟩)
    · exact .inr h
  refine ⟨a, F, [.scr ns], none, fun r _ => r = .d (.bool true), fun b o h => ?_, ⟨fun p hp => .nil (tabs p hp), fun b ps h => ?_⟩, fun n z => (nomatch z), .scr sq .nil, hP, fun r g' am' F' v H' er l fn s => ?_⟩
  · by_cases hb : b = a
    · subst hb
      rw [e] at h
      exact unT_of h
    · have : F b = none := if_neg hb
      rw [this] at h
      cases h
  · by_cases hb : b = a
    · subst hb
      rw [e] at h
      exact unT_not H _ _ h
    · have : F b = none := if_neg hb
      rw [this] at h
      cases h
  · subst er
    cases s
    rfl
end Dl
set_option Elab.async false
set_option maxRecDepth 100000
set_option linter.all false
set_option autoImplicit false
set_option maxHeartbeats 1000000
namespace Dl
open PySem L2
/-! ### a def that may raise, called where it does not -/
end Dl
set_option Elab.async false
set_option maxRecDepth 100000
set_option linter.all false
set_option autoImplicit false
set_option maxHeartbeats 1000000
/-! two names set at once where one of them is a cell: the pair is made and taken apart -/
namespace Dl
open PySem L2
variable [TabF]
theorem Sl.up {Δ : Dx} {am : Addr} {F H H' : Hp} {r : Rv} {v : V} (s : Sl Δ am F H r v) (l : Le H H') : Sl Δ am F H' r v := by
  cases r with
  | d x => exact s
  | gen => exact s
  | scr ns => exact s
  | own xs =>
    obtain ⟨a, vs, e1, e2, e3⟩ := s
    exact ⟨a, vs, e1, l _ _ e2, e3⟩
  | dic D =>
    obtain ⟨a, vs, e1, e2, e3⟩ := s
    exact ⟨a, vs, e1, l _ _ e2, e3⟩
section
variable {X : Cx} {Δ : Dx} {a b e : Expr} {fa fb : WE} {pos : Pos} {es : List Expr}
theorem ds_par2c (i j : Nat) {x y : Str} {px py pt : Pos} {kt k2 : Nat} {pt2 : Pos} (hc : X.calm = true) (hN : X.N.Nodup) (ha : PE X a (tE Δ fa)) (hb : ∀ Δ' : Dx, Δ'.K = Δ.K → PE X b (tE Δ' fb))
    (hi : X.N[i]? = some x := by rfl) (hj : X.N[j]? = some y := by rfl) (hx : Loc X.env.scope x := by first | exact Or.inl rfl | exact Or.inr rfl) (hy : Loc X.env.scope y := by first | exact Or.inl rfl | exact Or.inr rfl)
    (hf : X.fn x = true ∨ X.env.scope.names.lookup x = some .local := by first | exact .inl rfl | exact .inr rfl) (hf2 : X.fn y = true ∨ X.env.scope.names.lookup y = some .local := by first | exact .inl rfl | exact .inr rfl)
    (hs1 : starEach (a :: [b]) X.env = (false, eval a X.env) :: starEach [b] X.env := by rfl) (hs2 : starEach (b :: []) X.env = (false, eval b X.env) :: starEach [] X.env := by rfl)
    (hs : swapsWithSole [.Tuple [.Name x px, .Name y py] kt pt] (.Tuple [a, b] k2 pt2) pos.line X.env = pure false := by rfl) (hw : swappedStores [.Tuple [.Name x px, .Name y py] kt pt] (.Tuple [a, b] k2 pt2) X.env = pure none := by rfl)
    (h1 : (assignEach [.Tuple [.Name x px, .Name y py] kt pt] X.env).map (·.2) = [assign (.Tuple [.Name x px, .Name y py] kt pt) X.env] := by rfl)
    (ha1 : (assignEach (.Name x px :: [.Name y py]) X.env).map (·.2) = assign (.Name x px) X.env :: (assignEach [.Name y py] X.env).map (·.2) := by rfl)
    (ha2 : (assignEach (.Name y py :: []) X.env).map (·.2) = assign (.Name y py) X.env :: (assignEach [] X.env).map (·.2) := by rfl)
    (hn : (assignEach [.Name x px, .Name y py] X.env).length = 2 := by rfl) (hst : (assignEach [.Name x px, .Name y py] X.env).findIdx? (·.1) = none := by rfl) :
    PS X (.Assign [.Tuple [.Name x px, .Name y py] kt pt] (.Tuple [a, b] k2 pt2) pos) (tS Δ (sPar2 i j fa fb)) := by
  let tb : TE := fun σ H Q => ∃ Δ' : Dx, Δ'.K = Δ.K ∧ tE Δ' fb σ H Q
  have hb' : PE X b tb := ⟨fun pins s σ H Q I ⟨Δ', e, h⟩ => (hb Δ' e).run pins s σ H Q I h⟩
  refine (ps_asg (pe_tup (pa_cons ha (pa_cons hb' pa_nil hs2) hs1)) (pg_tup hc (pgs_cons (pg_name hN hi hx hf) (pgs_cons (pg_name hN hj hy hf2) pgs_nil ha2) ha1) hn hst) hs hw h1).imp fun D σ H ⟨am, F, c, P, XX, ok, hf, kf, kx⟩ => ?_
  refine ⟨am, F, c, _, XX, ok, hf, fun r1 c1 F1 v1 H1 p1 l1 o1 s1 => ?_, kx am⟩
  refine keep_of (Δ := Δ) o1 s1 (fun Δ' e σ H Q h => ⟨Δ', e, h⟩) p1 ((kx am).le l1) fun r2 c2 F2 v2 H2 p2 l2 o2 s2 s1' ne => ?_
  refine ⟨line_of (by simp), fun p hp => ?_⟩
  have up : ∀ {r : Rv} {v : V}, Rs Δ am F2 σ H2 c2 r v → Rs Δ am F2 σ (upd H2 p (.tup [v1, v2])) c2 r v := fun s => ⟨s.1.up (Le.up hp), s.2⟩
  have o3 := o2.alloc hp (.tup [v1, v2])
  refine ⟨p, _, rfl, SqT.of upd_same, rfl, _, _, rfl, _, _, rfl, rfl, kf.1 _ am F2 _ _ p2 (l1.trans l2) ?_⟩
  exact (o3.put (up s1') i).put ((up s2).put o3.len (fun z1 z2 e => ne z2 z1 e.symm) i) j
end
end Dl
set_option Elab.async false
set_option maxRecDepth 100000
set_option linter.all false
set_option autoImplicit false
set_option maxHeartbeats 1000000
/-! tuples of ints that the module itself holds -/
namespace Dl
open PySem L2
end Dl
set_option Elab.async false
set_option maxRecDepth 100000
set_option linter.all false
set_option autoImplicit false
set_option maxHeartbeats 1000000
namespace Dl
open PySem PySem.Spec PyProof.Rows L2 LamX
/-! ### a def that returns what the lambda gives, or how it is refused, out of the try itself -/
end Dl
set_option Elab.async false
set_option maxRecDepth 100000
set_option linter.all false
set_option autoImplicit false
set_option maxHeartbeats 1000000
namespace Dl
open PySem L2 PyProof.Rows
/-! list(range(n)) -/
end Dl
set_option Elab.async false
set_option maxRecDepth 100000
set_option linter.all false
set_option autoImplicit false
set_option maxHeartbeats 4000000
/-! sorted of a tuple of ints -/
namespace L2
open PySem PySem.Spec PyProof.Rows
end L2
namespace Dl
open PySem L2
end Dl
set_option Elab.async false
set_option maxRecDepth 100000
set_option linter.all false
set_option autoImplicit false
set_option maxHeartbeats 1000000
namespace Dl
open PySem PySem.Spec PyProof.Rows L2 LamX
end Dl
set_option Elab.async false
set_option maxRecDepth 100000
set_option linter.all false
set_option autoImplicit false
namespace Dl
open PySem L2
/-! ### two names set at once where no exception leaves and the second one is a raising call -/
end Dl
set_option Elab.async false
set_option maxRecDepth 100000
set_option linter.all false
set_option autoImplicit false
set_option maxHeartbeats 1000000
namespace Dl
open PySem PySem.Spec PyProof.Rows L2 LamX
variable [TabF]
/-! ### max(xs, key=lambda a: ..) -/
theorem RoomG.in1 {k : Nat} {A : Around} (r : RoomG (k + 1) A) : RoomG k A.in1 := ⟨r.toRoom.in1, r.gd⟩
def lenAt : Px → Nat
  | .tuple [_, .tuple ws] => ws.length
  | _ => 0
def maxLL (k : Px → Prop) (ys : List Px) : Prop := ys ≠ [] ∧ (∀ y ∈ ys, ∃ x ws, y = PyData.tuple [x, .tuple ws]) ∧ ∀ (i : Nat) (y : Px), ys[i]? = some y → (∀ (j : Nat) (z : Px), ys[j]? = some z → lenAt z ≤ lenAt y ∧ (j < i → lenAt z < lenAt y)) → k y
/-- max(xs, key=lambda a: len(a[1])) -/
def eMaxL (fx : WE) : WE := fun c P X => fx c (fun r c1 => asL r (maxLL fun d => P (.d d) c1)) X
end Dl
set_option Elab.async false
set_option maxRecDepth 100000
set_option linter.all false
set_option autoImplicit false
namespace Dl
open PySem L2
variable [TabF]
/-! ### in, over any data -/
section
variable {X : Cx}
def inDD (neg : Bool) : OD := fun x y P => match y with
  | .list ys => x.canLay0 = true ∧ x.depth ≤ 60 ∧ PyData.canLayAll0 ys = true ∧ P (.d (.bool (if neg then !ys.any fun z => PyData.eqv z x else ys.any fun z => PyData.eqv z x)))
  | .tuple ys => x.canLay0 = true ∧ x.depth ≤ 60 ∧ PyData.canLayAll0 ys = true ∧ P (.d (.bool (if neg then !ys.any fun z => PyData.eqv z x else ys.any fun z => PyData.eqv z x)))
  | _ => False
end
theorem inDD_l {neg : Bool} {x : Px} {ys : List Px} {P : Rv → Prop} : inDD neg x (.list ys) P = (x.canLay0 = true ∧ x.depth ≤ 60 ∧ PyData.canLayAll0 ys = true ∧ P (.d (.bool (if neg then !ys.any fun z => PyData.eqv z x else ys.any fun z => PyData.eqv z x)))) := rfl
end Dl
set_option Elab.async false
set_option maxRecDepth 100000
set_option linter.all false
set_option autoImplicit false
set_option maxHeartbeats 1000000
namespace Dl
open PySem PySem.Spec PyProof.Rows L2
variable [TabF]
/-! ### str of an int -/
def strC : CD := fun rs P => match rs with
  | [.d (.int i)] => i.natAbs.log2 < 1920 ∧ P (.d (.str (toString i)))
  | _ => False
theorem strC_i {i : Int} {P : Rv → Prop} : strC [.d (.int i)] P = (i.natAbs.log2 < 1920 ∧ P (.d (.str (toString i)))) := rfl
end Dl
set_option Elab.async false
set_option maxRecDepth 100000
set_option linter.all false
set_option autoImplicit false
set_option maxHeartbeats 1000000
namespace Dl
open PySem PySem.Spec PyProof.Rows L2
variable [TabF]
/-! ### f(g(..)) where g makes the drawing state: the old one is seen no more -/
def dropG : Option Rv → Option Rv
  | some .gen => none
  | o => o
def Cf.nog (c : Cf) : Cf := ⟨c.env.map dropG, none⟩
theorem dropG_some {o : Option Rv} {r : Rv} (h : dropG o = some r) : o = some r ∧ r ≠ .gen := by
  cases o with
  | none => cases h
  | some x => cases x <;> first | (cases h; exact ⟨rfl, fun z => nomatch z⟩) | cases h
theorem Ok.nog {Δ : Dx} {am : Addr} {F H : Hp} {σ : L2.St} {c : Cf} (k : Ok Δ am F σ H c) : Ok Δ am F σ H c.nog where
  fh := k.fh
  f0 := k.f0
  fr := k.fr
  tb := k.tb
  pr := k.pr
  al := k.al
  gn := fun n e => nomatch e
  len := by rw [k.len]; simp [Cf.nog]
  sv := fun i r e => by
    have e : (c.env.map dropG)[i]? = some (some r) := e
    rw [List.getElem?_map] at e
    cases h : c.env[i]? with
    | none => rw [h] at e; cases e
    | some o =>
      rw [h] at e
      obtain ⟨e1, _⟩ := dropG_some (Option.some.inj e)
      rw [e1] at h
      exact k.sv i r h
  di := fun i j r r' ne e1 e2 m1 m2 => by
    have g : ∀ {i : Nat} {r : Rv}, (c.env.map dropG)[i]? = some (some r) → c.env[i]? = some (some r) := fun {i r} e => by
      rw [List.getElem?_map] at e
      cases h : c.env[i]? with
      | none => rw [h] at e; cases e
      | some o =>
        rw [h] at e
        obtain ⟨e1, _⟩ := dropG_some (Option.some.inj e)
        rw [e1]
    exact k.di i j r r' ne (g e1) (g e2) m1 m2
/-- where no drawing state is seen, it does not matter where it stands -/
theorem Ok.am {Δ : Dx} {am am' : Addr} {F H : Hp} {σ : L2.St} {c : Cf} (k : Ok Δ am F σ H c) (hno : ∀ j : Nat, c.env[j]? ≠ some (some .gen)) : Ok Δ am' F σ H { c with g := none } where
  fh := k.fh
  f0 := k.f0
  fr := k.fr
  tb := k.tb
  pr := k.pr
  al := k.al
  gn := fun n e => nomatch e
  len := k.len
  sv := fun i r e => by
    obtain ⟨v, h1, h2⟩ := k.sv i r e
    refine ⟨v, h1, ?_⟩
    cases r with
    | gen => exact absurd e (hno i)
    | d x => exact h2
    | scr ns => exact h2
    | own xs => exact h2
    | dic D => exact h2
  di := k.di
theorem Rs.am {Δ : Dx} {am am' : Addr} {F H : Hp} {σ : L2.St} {c : Cf} {r : Rv} {v : V} {g : Option Nat} (k : Rs Δ am F σ H c r v) (ng : r ≠ .gen) : Rs Δ am' F σ H { c with g := g } r v := by
  refine ⟨?_, k.2⟩
  have h2 := k.1
  cases r with
  | gen => exact absurd rfl ng
  | d x => exact h2
  | scr ns => exact h2
  | own xs => exact h2
  | dic D => exact h2
section
variable {X : Cx} {Δ : Dx} {e : Expr} {es : List Expr} {p p2 p3 pos : Pos} {fr : WA}
def eCallB (Pf Pg : Cn) (fr : WA) : WE := fun c P X => fr c.nog (fun rs c1 => Rv.gen ∉ rs ∧ (∀ j : Nat, c1.env[j]? ≠ some (some .gen)) ∧ Pg rs none fun r g' => r = .gen ∧ ∃ n, g' = some n ∧ Pf [.gen] (some n) fun r2 g2 => r2 ≠ .gen ∧ P r2 { c1 with g := none }) X
end
theorem nog_eq {env : List (Option Rv)} {g : Option Nat} : Cf.nog ⟨env, g⟩ = ⟨env.map dropG, none⟩ := rfl
theorem dropG_n : dropG none = none := rfl
theorem dropG_g : dropG (some .gen) = none := rfl
theorem dropG_d {x : Px} : dropG (some (.d x)) = some (.d x) := rfl
theorem dropG_o {xs : List Px} : dropG (some (.own xs)) = some (.own xs) := rfl
theorem dropG_s {ns : List Int} : dropG (some (.scr ns)) = some (.scr ns) := rfl
theorem dropG_k {D : Dic} : dropG (some (.dic D)) = some (.dic D) := rfl
end Dl
set_option Elab.async false
set_option maxRecDepth 100000
set_option linter.all false
set_option autoImplicit false
set_option maxHeartbeats 1000000
namespace Dl
open PySem PySem.Spec PyProof.Rows L2
variable [TabF]
/-! ### defs as values -/
def lookN (l : List (Str × Addr)) (x : Str) : Option Addr := l.lookup x
end Dl
set_option Elab.async false
set_option maxRecDepth 100000
set_option linter.all false
set_option autoImplicit false
set_option maxHeartbeats 1000000
namespace Dl
open PySem PySem.Spec PyProof.Rows L2
variable [TabF]
/-! ### xs.remove(k): a name's own list of whole numbers -/
theorem RpA.ints_of {F : Hp} : ∀ {us : List V} {ns : List Int}, RpA F us (ns.map .int) → us = ns.map V.int
  | [], [], _ => rfl
  | u :: us, n :: ns, h => by
    cases h with
    | cons r h =>
      cases r
      rw [RpA.ints_of h]
      rfl
  | [], _ :: _, h => by cases h
  | _ :: _, [], h => by cases h
def eRem (i : Nat) (fb : WE) : WE := fun c P X => isOwn c i ∧ fb c (fun r c1 => asI r fun k => ownD c1 i fun xs => ∃ ns : List Int, xs = ns.map .int ∧ k ∈ ns ∧ P (.d .none) (putE c1 i (.own ((ns.erase k).map .int)))) X
end Dl
set_option Elab.async false
set_option maxRecDepth 100000
set_option linter.all false
set_option autoImplicit false
set_option maxHeartbeats 1000000
namespace Dl
open PySem PySem.Spec PyProof.Rows L2
variable [TabF]
section
variable {X : Cx} {Δ : Dx} {pos : Pos}
/-- {} -/
def eDisp0 : WE := fun c P _ => P (.dic (.k [])) c
end
end Dl
set_option Elab.async false
set_option maxRecDepth 100000
set_option linter.all false
set_option autoImplicit false
set_option maxHeartbeats 1000000
namespace Dl
open PySem PySem.Spec PyProof.Rows L2
end Dl
set_option Elab.async false
set_option maxRecDepth 100000
set_option linter.all false
set_option autoImplicit false
set_option maxHeartbeats 1000000
namespace Dl
open PySem PySem.Spec PyProof.Rows L2
variable [TabF]
/-! ### dicts of words that nothing changes, as data -/
def lookW : List (Px × Px) → Str → Option Px
  | [], _ => none
  | (.str j, d) :: r, k => if j = k then some d else lookW r k
  | _ :: _, _ => none
theorem RpW.at {F : Hp} {k : Str} {y : Px} : ∀ {ws : List (Key × V)} {kvs : List (Px × Px)}, RpW F ws kvs → lookW kvs k = some y → ∃ v, valV ws (.inr k : Key) = some v ∧ Rp F v y
  | _, _, .nil, h => by cases h
  | _, _, .cons (k := j) (v := v) (d := d) (ws := ws) (kvs := kvs) a b, h => by
    unfold lookW at h
    by_cases e : j = k
    · rw [if_pos e] at h
      cases h
      exact ⟨v, valV_pos (by rw [e]), a⟩
    · rw [if_neg e] at h
      obtain ⟨v', h1, h2⟩ := RpW.at b h
      refine ⟨v', ?_, h2⟩
      rw [valV_neg (by intro z; cases z; exact e rfl)]
      exact h1
def wPairs : List Str → List Px → List (Px × Px)
  | k :: ks, x :: xs => (.str k, x) :: wPairs ks xs
  | _, _ => []
def kPairs : List Str → List V → List (Key × V)
  | k :: ks, v :: vs => ((.inr k : Key), v) :: kPairs ks vs
  | _, _ => []
theorem RpW.of {F : Hp} : ∀ {ks : List Str} {vs : List V} {xs : List Px}, RpA F vs xs → RpW F (kPairs ks vs) (wPairs ks xs)
  | [], _, _, _ => .nil
  | _ :: _, [], [], .nil => .nil
  | _ :: _, _ :: _, _ :: _, .cons a b => .cons a (RpW.of b)
section
variable {X : Cx} {Δ : Dx} {pos : Pos}
/-- an own thing, named no more, becomes data -/
theorem Ok.frzO {am : Addr} {F : Hp} {σ : L2.St} {H : Hp} {c : Cf} (k : Ok Δ am F σ H c) {a : Addr} {o : HO} (h : H a = some o) (nt : ∀ ps, o ≠ .tbl ps) (hg : ∀ n, c.g = some n → am ≠ a) (h0 : Δ.H0 a = none) (hf : F a = none) (no : ∀ (i : Nat) (r : Rv), c.env[i]? = some (some r) → r.mu → σ[i]? ≠ some (some (.ref a))) :
    Ok Δ am (upd F a o) σ H c ∧ Le F (upd F a o) := by
  refine ⟨k.stay (k.tb.2.1.upd nt) (Le.up hf) ?_ ?_ ?_ ?_, Le.up hf⟩
  · intro b o e
    by_cases q : b = a
    · subst q; rw [upd_same] at e; rw [h]; exact e
    · rw [upd_ne q] at e; exact k.fh b o e
  · intro b e
    by_cases q : b = a
    · subst q; exact .inr h0
    · rw [upd_ne q] at e; exact .inl e
  · intro n e
    rw [upd_ne (hg n e)]
    exact (k.gn n e).2.1
  · intro i r b e1 mu e2
    have ne : b ≠ a := by
      rintro rfl
      exact no i r e1 mu e2
    rw [upd_ne ne]
    obtain ⟨v, e3, e4⟩ := k.sv i _ e1
    rw [e2] at e3
    cases e3
    cases r with
    | own xs =>
      obtain ⟨a', vs', e5, e6, e7, _⟩ := e4
      cases e5
      exact e7
    | dic D =>
      obtain ⟨a', vs', e5, e6, e7, _⟩ := e4
      cases e5
      exact e7
    | d x => exact mu.elim
    | gen => exact mu.elim
    | scr ns => exact mu.elim
/-- {'a': x, 'b': y, ..} -/
def eDispW (ks : List Str) (fr : WA) : WE := fun c P X => fr c (fun rs c1 => asDs rs fun xs => P (.d (.dict (wPairs ks xs))) c1) X
/-- d['a'], a name's -/
def ixW (x : Px) (k : Str) (q : Px → Prop) : Prop := match x with
  | .dict (p1 :: p2 :: r) => ∃ y, lookW (p1 :: p2 :: r) k = some y ∧ q y
  | _ => False
theorem ixW_d {p1 p2 : Px × Px} {r : List (Px × Px)} {k : Str} {q : Px → Prop} : ixW (.dict (p1 :: p2 :: r)) k q = ∃ y, lookW (p1 :: p2 :: r) k = some y ∧ q y := rfl
def eIxW (i : Nat) (k : Str) : WE := fun c P _ => slotD c i fun x => ixW x k fun y => P (.d y) c
end
end Dl
set_option Elab.async false
set_option maxRecDepth 100000
set_option linter.all false
set_option autoImplicit false
namespace Dl
open PySem L2
/-! ### two names set at once where no exception leaves and the second one is a raising call -/
end Dl
set_option Elab.async false
set_option maxRecDepth 100000
set_option linter.all false
set_option autoImplicit false
namespace Dl
open PySem L2
variable [TabF]
/-! ### sum of a list or a tuple of whole numbers -/
section
variable {X : Cx} {Δ : Dx}
def ifdivD : OD := iD (fun i j => .int (i.fdiv j)) fun i j => 0 < j ∧ CDiv2 i j
theorem ifdiv_i {i j : Int} {P : Rv → Prop} : ifdivD (.int i) (.int j) P = ((0 < j ∧ CDiv2 i j) ∧ P (.d (.int (i.fdiv j)))) := rfl
def sumC : CD := fun rs P => match rs with
  | [.d (.list xs)] => ∃ ns : List Int, xs = ns.map .int ∧ P (.d (.int ns.sum))
  | [.d (.tuple xs)] => ∃ ns : List Int, xs = ns.map .int ∧ P (.d (.int ns.sum))
  | _ => False
theorem sumC_l {xs : List Px} {P : Rv → Prop} : sumC [.d (.list xs)] P = ∃ ns : List Int, xs = ns.map .int ∧ P (.d (.int ns.sum)) := rfl
theorem sumC_t {xs : List Px} {P : Rv → Prop} : sumC [.d (.tuple xs)] P = ∃ ns : List Int, xs = ns.map .int ∧ P (.d (.int ns.sum)) := rfl
end
end Dl
set_option Elab.async false
set_option maxRecDepth 100000
set_option linter.all false
set_option autoImplicit false
namespace Dl
/-! ### x < y over data: whole numbers, and tuples whose places are such -/
end Dl
namespace Dl
open PySem PySem.Spec PySem.SeqAt PyProof.Rows
end Dl
namespace Dl
open PySem L2
end Dl
set_option Elab.async false
set_option maxRecDepth 100000
set_option linter.all false
set_option autoImplicit false
namespace Dl
open PySem L2
variable [TabF]
/-! ### list(f(..)), a def that returns a dict: its keys -/
section
variable {X : Cx} {Δ : Dx} {fb : WE} {e : Expr} {x : Str} {p pos : Pos}
def eLstK (fb : WE) : WE := fun c P X => fb c (fun r c1 => dicR r fun kvs => P (.own (kvs.map fun kv => .int kv.1)) c1) X
theorem RpK.keysA {F : Hp} {ws : List (Key × V)} {kvs : List (Int × Px)} (r : RpK F ws kvs) : RpA F (ws.map fun kv => (L2.kV kv.1 : V)) (kvs.map fun kv => .int kv.1) := by
  induction r with
  | nil => exact .nil
  | cons a b ih => exact .cons (.int _) ih
end
end Dl
set_option Elab.async false
set_option maxRecDepth 100000
set_option linter.all false
set_option autoImplicit false
namespace Dl
open PySem L2
/-! ### comprehensions whose body calls what may raise, in a def where it does not -/
end Dl
set_option Elab.async false
set_option maxRecDepth 100000
set_option linter.all false
set_option autoImplicit false
namespace Dl
open PySem PySem.Spec PyProof.Rows L2
variable [TabF]
/-! ### a name's dict with int keys, given away as data -/
def encK (kvs : List (Int × Px)) : List (Px × Px) := kvs.map fun p => (PyData.int p.1, p.2)
def eDc (kvs : List (Int × Px)) : Px := .dict ((.none, .none) :: encK kvs)
theorem encK_inj : ∀ {k l : List (Int × Px)}, encK k = encK l → k = l
  | [], [], _ => rfl
  | [], _ :: _, h => by simp [encK] at h
  | _ :: _, [], h => by simp [encK] at h
  | (a, x) :: k, (b, y) :: l, h => by
    simp only [encK, List.map_cons, List.cons.injEq, Prod.mk.injEq, PyData.int.injEq] at h
    obtain ⟨⟨rfl, rfl⟩, h⟩ := h
    rw [encK_inj h]
theorem eDc_inj {k l : List (Int × Px)} (h : eDc k = eDc l) : k = l := by
  unfold eDc at h
  simp only [PyData.dict.injEq, List.cons.injEq, true_and] at h
  exact encK_inj h
theorem RpI.of {F : Hp} : ∀ {ws : List (Key × V)} {kvs : List (Int × Px)}, RpK F ws kvs → RpI F ws (encK kvs)
  | _, _, .nil => .nil
  | _, _, .cons a b => .cons a (RpI.of b)
theorem RpI.to {F : Hp} : ∀ {ws : List (Key × V)} {kvs : List (Int × Px)}, RpI F ws (encK kvs) → RpK F ws kvs
  | ws, [], h => by
    have h : RpI F ws [] := h
    cases h
    exact .nil
  | ws, (k, d) :: kvs, h => by
    have h : RpI F ws ((.int k, d) :: encK kvs) := h
    cases h with
    | cons a b => exact .cons a (RpI.to b)
theorem rp_dc {F : Hp} {v : V} {kvs : List (Int × Px)} (h : Rp F v (eDc kvs)) : ∃ a o ws, v = .ref a ∧ F a = some (.frz o (.dK ws)) ∧ RpK F ws kvs := by
  unfold eDc at h
  cases hk : encK kvs with
  | nil =>
    rw [hk] at h
    cases h with
    | dci e r => exact ⟨_, _, _, rfl, e, RpI.to (by rw [hk]; exact r)⟩
  | cons p r0 =>
    rw [hk] at h
    cases h with
    | dct e r => cases r
    | dci e r => exact ⟨_, _, _, rfl, e, RpI.to (by rw [hk]; exact r)⟩
section
variable {X : Cx} {Δ : Dx} {a b e e1 e2 : Expr} {fa fb f1 f2 : WE} {pos : Pos} {x : Str} {p p2 : Pos}
/-- what an expression's value stands for is locked for good -/
theorem _root_.L2.pe_lockK {e : Expr} {t : TE} (h : PE X e t) : PE X e (fun σ H Q => t σ H fun v H1 => ∃ d u, H1 d = some u ∧ Mut (some u) ∧ ∀ od, Q v (upd H1 d (.frz od u))) := by
  refine ⟨fun pins s σ H Q I hw => ?_⟩
  refine thn (h.run pins s σ H _ I hw) fun v s1 ⟨x, H1, I1, r, d, u, hd, mu, q⟩ => ?_
  obtain ⟨od, I2⟩ := I1.lock hd mu
  exact ⟨x, _, I2, r, q od⟩
theorem frz_nt {od : Obj} {u : HO} : ∀ ps, (HO.frz od u) ≠ .tbl ps := fun ps z => nomatch z
/-- an own dict that no name holds, locked, becomes data -/
theorem Ok.lockD {am : Addr} {F : Hp} {σ : L2.St} {H : Hp} {c : Cf} {a : Addr} {ws : List (Key × V)} {kvs : List (Int × Px)} (k : Ok Δ am F σ H c) (h : H a = some (.dK ws)) (r : RpK F ws kvs) (hf : F a = none) (h0 : Δ.H0 a = none)
    (no : ∀ (i : Nat) (r : Rv), c.env[i]? = some (some r) → r.mu → σ[i]? ≠ some (some (.ref a))) (od : Obj) :
    Ok Δ am (upd F a (.frz od (.dK ws))) σ (upd H a (.frz od (.dK ws))) c ∧ Le F (upd F a (.frz od (.dK ws))) ∧ Rp (upd F a (.frz od (.dK ws))) (.ref a) (eDc kvs) := by
  have hg := fun n e => k.ngD (D := .k kvs) h ⟨ws, rfl, r⟩ n e
  have k1 := k.chgO (o' := .frz od (.dK ws)) h frz_nt ⟨_, rfl⟩ hg hf h0 no
  obtain ⟨k2, l⟩ := k1.frzO (o := .frz od (.dK ws)) upd_same frz_nt hg h0 hf no
  exact ⟨k2, l, .dci upd_same (RpI.of (r.mono l))⟩
theorem Ok.giveD {am : Addr} {F : Hp} {σ : L2.St} {H : Hp} {c : Cf} (k : Ok Δ am F σ H c) {i : Nat} {kvs : List (Int × Px)} (h : c.env[i]? = some (some (.dic (.k kvs)))) :
    ∃ a ws, σ[i]? = some (some (.ref a)) ∧ H a = some (.dK ws) ∧ ∀ od, ∃ F', Le F F' ∧ Ok Δ am F' σ (upd H a (.frz od (.dK ws))) { c with env := c.env.set i (some (.d (eDc kvs))) } ∧ Rp F' (.ref a) (eDc kvs) := by
  obtain ⟨v, h1, a, o, e1, e2, e3, e4, ws, e5, e6⟩ := k.sv i _ h
  subst e1
  subst e5
  refine ⟨a, ws, h1, e2, fun od => ?_⟩
  have hi : i < c.env.length := (List.getElem?_eq_some_iff.mp h).1
  have k1 : Ok Δ am F σ H { c with env := c.env.set i none } := ⟨k.fh, k.f0, k.fr, k.tb, k.pr, k.al, k.gn, by simpa using k.len, fun j r e => by
      rw [env_get] at e
      split at e
      · cases e
      · exact k.sv j r e, fun j l ys zs n p q => by
      rw [env_get] at p q
      split at p
      · cases p
      · split at q
        · cases q
        · exact k.di j l ys zs n p q⟩
  obtain ⟨k2, l, rp⟩ := k1.lockD e2 e6 e3 e4 (fun j ys e mu => by
    have e : (c.env.set i none)[j]? = some (some ys) := e
    rw [env_get] at e
    split at e
    · cases e
    · rename_i n
      intro z
      exact k.di j i ys _ (fun q => n ⟨q, hi⟩) e h mu True.intro (z.trans h1.symm)) od
  refine ⟨_, l, ?_, rp⟩
  refine ⟨k2.fh, k2.f0, k2.fr, k2.tb, k2.pr, k2.al, k2.gn, by simpa using k.len, fun j r e => ?_, fun j l ys zs n p q => ?_⟩
  · rw [env_get] at e
    split at e
    · rename_i z
      cases e
      rw [z.1]
      exact ⟨_, h1, rp⟩
    · exact k2.sv j r (by show (c.env.set i none)[j]? = _; rw [env_get, if_neg (by assumption)]; exact e)
  · rw [env_get] at p q
    split at p
    · cases p
      exact fun z => z.elim
    · split at q
      · cases q
        exact fun _ z => z.elim
      · exact k.di j l ys zs n p q
def eFrz (i : Nat) : WE := fun c P _ => dicD c i fun kvs => P (.d (eDc kvs)) { c with env := c.env.set i (some (.d (eDc kvs))) }
theorem de_frz (i : Nat) {x : Str} (hN : X.N[i]? = some x := by rfl) (hv : Vis X.env.scope x := by first | exact Or.inl rfl | exact Or.inr (Or.inl rfl) | exact Or.inr (Or.inr rfl)) (hd : (x == ("__debug__" : Str)) = false := by decide)
    (hcd : (x == ("__classdict__" : Str)) = false := by decide) : PE X (.Name x pos) (tE Δ (eFrz i)) := by
  refine (pe_lockK (pv i hN hv hd hcd)).imp fun σ H Q ⟨am, F, c, P, XX, ok, hf, kq, kx⟩ => ?_
  obtain ⟨a', ws', kvs, q, e0, _⟩ := ok.mineD (show dicD c i _ from hf)
  obtain ⟨a, ws, h1, h2, h3⟩ := ok.giveD e0
  refine ⟨_, h1, a, _, h2, True.intro, fun od => ?_⟩
  obtain ⟨F', l, k, r⟩ := h3 od
  exact kq _ _ F' _ _ q l k ⟨r, fun z => z.elim⟩
/-- a call's own dict, locked at once -/
def eFrzC (f : WE) : WE := fun c P X => f c (fun r c1 => dicR r fun kvs => P (.d (eDc kvs)) c1) X
theorem de_frzC {e : Expr} {f : WE} (h : PE X e (tE Δ f)) : PE X e (tE Δ (eFrzC f)) := by
  refine (pe_lockK h).imp fun σ H Q ⟨am, F, c, P, XX, ok, hf, kq, kx⟩ => ?_
  refine ⟨am, F, c, _, XX, ok, hf, fun r c1 F1 v H1 p1 l1 o1 s1 => ?_, kx⟩
  dsimp only at p1
  unfold dicR at p1
  split at p1
  · obtain ⟨⟨ad, o, q1, q2, q3, q4, ws, q5, q6⟩, no⟩ := s1
    subst q1
    subst q5
    refine ⟨ad, _, q2, True.intro, fun od => ?_⟩
    obtain ⟨k2, l, rp⟩ := o1.lockD q2 q6 q3 q4 (fun i r e mu => no True.intro i r e mu) od
    exact kq _ c1 _ _ _ p1 (l1.trans l) k2 (.of rp)
  · exact p1.elim
/-! ### dicts that are data -/
def slotFd (o : Option (Option Rv)) (k : List (Int × Px) → Prop) : Prop := ∃ kvs, o = some (some (.d (eDc kvs))) ∧ k kvs
theorem slotFd_k {kvs : List (Int × Px)} {k : List (Int × Px) → Prop} : slotFd (some (some (.d (eDc kvs)))) k = k kvs := by
  apply propext
  constructor
  · rintro ⟨l, h, q⟩
    have : kvs = l := eDc_inj (by
      have h := Option.some.inj (Option.some.inj h)
      injection h)
    exact this ▸ q
  · exact fun q => ⟨kvs, rfl, q⟩
def fdD (c : Cf) (i : Nat) (k : List (Int × Px) → Prop) : Prop := slotFd c.env[i]? k
theorem fdD_eq {c : Cf} {i : Nat} {k : List (Int × Px) → Prop} : fdD c i k = slotFd c.env[i]? k := rfl
def isFd (c : Cf) (i : Nat) : Prop := fdD c i fun _ => True
theorem Ok.seenD {am : Addr} {F : Hp} {σ : L2.St} {H : Hp} {c : Cf} (k : Ok Δ am F σ H c) {i : Nat} {q : List (Int × Px) → Prop} (h : fdD c i q) :
    ∃ a o ws kvs, q kvs ∧ c.env[i]? = some (some (.d (eDc kvs))) ∧ σ[i]? = some (some (.ref a)) ∧ H a = some (.frz o (.dK ws)) ∧ RpK F ws kvs := by
  obtain ⟨kvs, e, q⟩ := h
  obtain ⟨v, h1, h2⟩ := k.sv i _ e
  obtain ⟨a, o, ws, rfl, h3, h4⟩ := rp_dc h2
  exact ⟨a, o, ws, kvs, q, e, h1, k.fh _ _ h3, h4⟩
theorem dget_f {H : Hp} {a : Addr} {o : Obj} {kvs : List (Key × V)} {k : Key} (e : H a = some (.frz o (.dK kvs))) : DGet H a (L2.kV k) (valV kvs k) := .inl ⟨kvs, k, .inr ⟨o, e⟩, rfl, rfl⟩
/-- d[k], a name's dict that is data -/
def eDIxF (i : Nat) (fb : WE) : WE := fun c P X => isFd c i ∧ fb c (fun r c1 => asI r fun k => fdD c1 i fun kvs => ∃ y, lookD kvs k = some y ∧ P (.d y) c1) X
theorem de_dixF (i : Nat) (hu : X.A.units + 64 < cLine) (hb : PE X b (tE Δ fb)) (hs : NoSl b := by intros; rfl) (hN : X.N[i]? = some x := by rfl)
    (hv : Vis X.env.scope x := by first | exact Or.inl rfl | exact Or.inr (Or.inl rfl) | exact Or.inr (Or.inr rfl)) (hd : (x == ("__debug__" : Str)) = false := by decide)
    (hcd : (x == ("__classdict__" : Str)) = false := by decide) : PE X (.Subscript (.Name x p) b pos) (tE Δ (eDIxF i fb)) := by
  refine (pe_dget (by omega) (pv i hN hv hd hcd) hb hs).imp fun σ H Q ⟨am, F, c, P, XX, ok, ⟨ho, hf⟩, kq, kx⟩ => ?_
  obtain ⟨a, ob, ws, kvs, _, e0, g1, _⟩ := ok.seenD ho
  refine ⟨_, g1, am, F, c, _, XX, ok, hf, fun r c1 F1 v1 H1 p1 l1 o1 s1 => ?_, kx⟩
  obtain ⟨k, rfl, p1⟩ := asI_of p1
  have w1 := s1.1
  cases w1
  obtain ⟨a', ob', us, kvs', q, e1, k1, k2, k5⟩ := o1.seenD p1
  rw [g1] at k1
  cases k1
  obtain ⟨y, hy, hp⟩ := q
  obtain ⟨v, hv, rv⟩ := k5.look.1 y hy
  refine ⟨a, v, rfl, ?_, kq (.d y) c1 F1 v H1 hp l1 o1 (.of rv)⟩
  have g := dget_f (k := (.inl k : Key)) k2
  rw [hv] at g
  exact g
/-- k in d, k not in d -/
def eDInF (neg : Bool) (i : Nat) (fb : WE) : WE := fun c P X => isFd c i ∧ fb c (fun r c1 => asI r fun k => fdD c1 i fun kvs => P (.d (.bool (if neg then !(lookD kvs k).isSome else (lookD kvs k).isSome))) c1) X
theorem eDInF_t {i : Nat} {fb : WE} {c : Cf} {P : Rv → Cf → Prop} {XX : XP} : eDInF true i fb c P XX = (isFd c i ∧ fb c (fun r c1 => asI r fun k => fdD c1 i fun kvs => P (.d (.bool (!(lookD kvs k).isSome))) c1) XX) := rfl
theorem eDInF_f {i : Nat} {fb : WE} {c : Cf} {P : Rv → Cf → Prop} {XX : XP} : eDInF false i fb c P XX = (isFd c i ∧ fb c (fun r c1 => asI r fun k => fdD c1 i fun kvs => P (.d (.bool (lookD kvs k).isSome)) c1) XX) := rfl
theorem inDD_t {neg : Bool} {x : Px} {ys : List Px} {P : Rv → Prop} : inDD neg x (.tuple ys) P = (x.canLay0 = true ∧ x.depth ≤ 60 ∧ PyData.canLayAll0 ys = true ∧ P (.d (.bool (if neg then !ys.any fun z => PyData.eqv z x else ys.any fun z => PyData.eqv z x)))) := rfl
section
variable (i : Nat) (hu : X.A.units + 64 < cLine) (hb : PE X b (tE Δ fb)) (hN : X.N[i]? = some x)
    (hv : Vis X.env.scope x) (hd : (x == ("__debug__" : Str)) = false)
    (hcd : (x == ("__classdict__" : Str)) = false)
include hu hb hN hv hd hcd
theorem dn_inF : PC X .NotIn b (.Name x p) (fun σ H Q => tE Δ (eDInF true i fb) σ H Q) := by
  refine ⟨fun pins s σ H Q I h => (pc_dnotin (by omega) hb (pv i hN hv hd hcd)).run pins s σ H Q I ?_⟩
  obtain ⟨am, F, c, P, XX, ok, ⟨ho, hf⟩, kq, kx⟩ := h
  refine ⟨am, F, c, _, XX, ok, hf, fun r c1 F1 v1 H1 p1 l1 o1 s1 => ?_, kx⟩
  obtain ⟨k, rfl, p1⟩ := asI_of p1
  have w1 := s1.1
  cases w1
  obtain ⟨a', ob', us, kvs', q, e1, k1, k2, k5⟩ := o1.seenD p1
  refine ⟨_, k1, a', valV us (.inl k : Key), rfl, dget_f (k := (.inl k : Key)) k2, ?_⟩
  rw [din_some (am := am) k5]
  exact kq _ c1 F1 _ H1 q l1 o1 (.of (.bl _))
theorem d_inF : PC X .In b (.Name x p) (fun σ H Q => tE Δ (eDInF false i fb) σ H Q) := by
  refine ⟨fun pins s σ H Q I h => (pc_din (by omega) hb (pv i hN hv hd hcd)).run pins s σ H Q I ?_⟩
  obtain ⟨am, F, c, P, XX, ok, ⟨ho, hf⟩, kq, kx⟩ := h
  refine ⟨am, F, c, _, XX, ok, hf, fun r c1 F1 v1 H1 p1 l1 o1 s1 => ?_, kx⟩
  obtain ⟨k, rfl, p1⟩ := asI_of p1
  have w1 := s1.1
  cases w1
  obtain ⟨a', ob', us, kvs', q, e1, k1, k2, k5⟩ := o1.seenD p1
  refine ⟨_, k1, a', valV us (.inl k : Key), rfl, dget_f (k := (.inl k : Key)) k2, ?_⟩
  rw [din_some (am := am) k5]
  exact kq _ c1 F1 _ H1 q l1 o1 (.of (.bl _))
end
theorem dt_dnInF (i : Nat) (hu : X.A.units + 64 < cLine) (hb : PE X b (tE Δ fb)) (hN : X.N[i]? = some x := by rfl)
    (hv : Vis X.env.scope x := by first | exact Or.inl rfl | exact Or.inr (Or.inl rfl) | exact Or.inr (Or.inr rfl)) (hd : (x == ("__debug__" : Str)) = false := by decide)
    (hcd : (x == ("__classdict__" : Str)) = false := by decide) (hm : behindInMarks .NotIn (.Name x p) = false := by first | exact nobehind _ (by decide) (by decide) | rfl) : PT X (.Compare b [.NotIn] [.Name x p] pos) (tT Δ (wB (eDInF true i fb))) :=
  (pt_cmp (dn_inF i hu hb hN hv hd hcd) hm).imp fun σ H Q h => tB_of _ _ (fun _ _ _ h => h) σ H Q h
theorem dt_dinF (i : Nat) (hu : X.A.units + 64 < cLine) (hb : PE X b (tE Δ fb)) (hN : X.N[i]? = some x := by rfl)
    (hv : Vis X.env.scope x := by first | exact Or.inl rfl | exact Or.inr (Or.inl rfl) | exact Or.inr (Or.inr rfl)) (hd : (x == ("__debug__" : Str)) = false := by decide)
    (hcd : (x == ("__classdict__" : Str)) = false := by decide) (hm : behindInMarks .In (.Name x p) = false := by first | exact nobehind _ (by decide) (by decide) | rfl) : PT X (.Compare b [.In] [.Name x p] pos) (tT Δ (wB (eDInF false i fb))) :=
  (pt_cmp (d_inF i hu hb hN hv hd hcd) hm).imp fun σ H Q h => tB_of _ _ (fun _ _ _ h => h) σ H Q h
end
end Dl
set_option Elab.async false
set_option maxRecDepth 100000
set_option linter.all false
set_option autoImplicit false
namespace Dl
open PySem PySem.Spec PyProof.Rows L2
variable [TabF]
/-! ### own lists lent to a call and taken back -/
mutual
def noL : Px → Bool
  | .none => true
  | .bool _ => true
  | .int _ => true
  | .str _ => true
  | .tuple xs => noLA xs
  | .list _ => false
  | .dict _ => false
def noLA : List Px → Bool
  | [] => true
  | x :: xs => noL x && noLA xs
end
def noLK (kvs : List (Int × Px)) : Bool := kvs.all fun p => noL p.2
/-- nothing in it can be the list that was lent -/
def noLR : Rv → Prop
  | .d x => noL x = true
  | .own xs => noLA xs = true
  | .dic (.k kvs) => noLK kvs = true
  | _ => False
/-- a slot ahead of the call, and behind it -/
def borS (r r1 : Option Rv) : Prop := (r1 = r ∧ ∀ x, r = some x → x.mu → noLR x) ∨ ∃ ys ys', r = some (.own ys) ∧ r1 = some (.d (.list ys')) ∧ noLA ys' = true
inductive BorE : List (Option Rv) → List (Option Rv) → Prop
  | nil : BorE [] []
  | cons {r r1 : Option Rv} {l l1 : List (Option Rv)} : borS r r1 → BorE l l1 → BorE (r :: l) (r1 :: l1)
theorem BorE.at : ∀ {l l1 : List (Option Rv)} (i : Nat) (r1 : Option Rv), BorE l l1 → l1[i]? = some r1 → ∃ r, l[i]? = some r ∧ borS r r1
  | _, _, i, r1, .nil, h => by simp at h
  | _, _, 0, r1, .cons a b, h => by
    simp at h
    subst h
    exact ⟨_, by simp, a⟩
  | _, _, i + 1, r1, .cons a b, h => by
    obtain ⟨r, e, q⟩ := BorE.at i r1 b (by simpa using h)
    exact ⟨r, by simpa using e, q⟩
section
variable {X : Cx} {Δ : Dx} {e : Expr} {f : WE}
/-- a name's own list lent -/
def eBor (i : Nat) (f : WE) : WE := fun c P X => ownD c i fun xs => noLA xs = true ∧ f c (fun r c1 => c1.env[i]? = some (some (.d (.list xs))) ∧ c1.g = none ∧ noLR r ∧ BorE c.env c1.env ∧ P r { c1 with env := c1.env.set i (some (.own xs)) }) X
end
end Dl
set_option Elab.async false
set_option maxRecDepth 100000
set_option linter.all false
set_option autoImplicit false
namespace Dl
open PySem PySem.Spec PyProof.Rows L2
variable [TabF]
/-! ### a dict that is data, gone through -/
def fdR (r : Rv) (k : List (Int × Px) → Prop) : Prop := ∃ kvs, r = .d (eDc kvs) ∧ k kvs
theorem fdR_d {kvs : List (Int × Px)} {k : List (Int × Px) → Prop} : fdR (.d (eDc kvs)) k = k kvs := by
  apply propext
  constructor
  · rintro ⟨l, h, q⟩
    have : kvs = l := eDc_inj (by injection h)
    exact this ▸ q
  · exact fun q => ⟨kvs, rfl, q⟩
def keyX (kvs : List (Int × Px)) : List Px := kvs.map fun kv => .int kv.1
def itmX (kvs : List (Int × Px)) : List Px := kvs.map fun kv => .tuple [.int kv.1, kv.2]
theorem RpK.getV {F : Hp} : ∀ {ws : List (Key × V)} {kvs : List (Int × Px)} {i : Nat} {k : Key} {v : V}, RpK F ws kvs → ws[i]? = some (k, v) → ∃ j d, k = .inl j ∧ kvs[i]? = some (j, d) ∧ Rp F v d
  | _, _, _, _, _, .nil, h => by simp at h
  | _, _, 0, _, _, .cons a _, h => by
    simp at h
    obtain ⟨rfl, rfl⟩ := h
    exact ⟨_, _, rfl, rfl, a⟩
  | _, _, i + 1, _, _, .cons _ b, h => by
    obtain ⟨j, d, h1, h2, h3⟩ := RpK.getV (i := i) b (by simpa using h)
    exact ⟨j, d, h1, by simpa using h2, h3⟩
theorem walk_dk {F : Hp} {a : Addr} {o : Obj} {ws : List (Key × V)} {kvs : List (Int × Px)} (e : F a = some (.frz o (.dK ws))) (r : RpK F ws kvs) : WalkX (Itk a o ws) (keyX kvs) F := by
  have w : L2.Walk (Itk a o ws) ws.length (fun H => H a = some (.frz o (.dK ws))) _ := walk_keys
  have el : (keyX kvs).length = ws.length := by rw [r.length]; simp [keyX]
  unfold WalkX
  rw [el]
  refine w.mono (fun H h => h _ _ e) fun i H x H' _ _ ⟨h1, k, v, h2, h3⟩ => ?_
  obtain ⟨j, d, rfl, g2, g3⟩ := r.getV h2
  refine ⟨.int j, by simp [keyX, g2], .inl ⟨h1, ?_⟩⟩
  rw [h3]
  exact .int j
theorem walk_di {F : Hp} {a : Addr} {o : Obj} {ws : List (Key × V)} {kvs : List (Int × Px)} (e : F a = some (.frz o (.dK ws))) (r : RpK F ws kvs) : WalkX (Iti a o ws) (itmX kvs) F := by
  have w : L2.Walk (Iti a o ws) ws.length (fun H => H a = some (.frz o (.dK ws))) _ := walk_items
  have el : (itmX kvs).length = ws.length := by rw [r.length]; simp [itmX]
  unfold WalkX
  rw [el]
  refine w.mono (fun H h => h _ _ e) fun i H x H' _ _ ⟨T, y, z, h1, h2, h3, h4, h5⟩ => ?_
  dsimp only at h4 h5
  cases hw : ws[i]? with
  | none => rw [hw] at h4; cases h4
  | some p =>
    obtain ⟨k, v⟩ := p
    rw [hw] at h4 h5
    have h4 := Option.some.inj h4
    have h5 := Option.some.inj h5
    obtain ⟨j, d, rfl, g2, g3⟩ := r.getV hw
    refine ⟨.tuple [.int j, d], by simp [itmX, g2], .inr ⟨T, _, _, h1, h2, h3, rfl, ?_⟩⟩
    rw [← h4, ← h5]
    exact .cons (.int j) (.one g3)
section
variable {X : Cx} {Δ : Dx} {e : Expr} {f fb : WE} {tg : Expr} {pos : Pos}
def iDk (f : WE) : WI := fun c P X => f c (fun r c1 => fdR r fun kvs => P (keyX kvs) c1) X
def iDi (f : WE) : WI := fun c P X => f c (fun r c1 => fdR r fun kvs => P (itmX kvs) c1) X
theorem di_dk (ha : PE X e (tE Δ f)) : PI X tg e (tI Δ (iDk f)) := by
  refine (pi_keys ha).imp fun σ H R ⟨am, F, c, P, XX, ok, hf, kq, kx⟩ => ?_
  refine ⟨am, F, c, _, XX, ok, hf, fun r1 c1 F1 v1 H1 p1 l1 o1 s1 => ?_, kx⟩
  obtain ⟨kvs, rfl, p1⟩ := p1
  obtain ⟨a, o, ws, e1, e2, e3⟩ := rp_dc s1.1
  exact ⟨a, o, e1, .inl ⟨ws, o1.fh _ _ e2, kq _ c1 F1 H1 _ p1 l1 o1 (walk_dk e2 e3)⟩⟩
theorem di_di {elts : List Expr} {kk : Nat} {tpos apos cpos : Pos} (ha : PE X e (tE Δ f)) (hbase : attributeBase e "items" X.env (eval e X.env) = eval e X.env := by rfl) (hline : (apos.endLine == cpos.line) = true := by rfl) :
    PI X (.Tuple elts kk tpos) (.Call (.Attribute e "items" apos) [] [] cpos) (tI Δ (iDi f)) := by
  refine (pi_items ha hbase hline).imp fun σ H R ⟨am, F, c, P, XX, ok, hf, kq, kx⟩ => ?_
  refine ⟨am, F, c, _, XX, ok, hf, fun r1 c1 F1 v1 H1 p1 l1 o1 s1 => ?_, kx⟩
  obtain ⟨kvs, rfl, p1⟩ := p1
  obtain ⟨a, o, ws, e1, e2, e3⟩ := rp_dc s1.1
  exact ⟨a, o, ws, e1, o1.fh _ _ e2, kq _ c1 F1 H1 _ p1 l1 o1 (walk_di e2 e3)⟩
/-- list(d) -/
def rListF : List V → Hp → VK → Prop := fun xs H Q => ∃ p o kvs, xs = [.ref p] ∧ H p = some (.frz o (.dK kvs)) ∧ ∀ q, H q = none → Q (.ref q) (upd H q (.lst (kvs.map fun kv => L2.kV kv.1)))
theorem call_list_fK (hc : X.calm = true) : CallR X (.type "list") rListF := by
  intro pins s σ H xs us Q I r h
  obtain ⟨p, o, kvs, e, hk, q⟩ := h
  subst e
  obtain ⟨u, eu, rx⟩ := vals1 r
  subst eu
  obtain rfl : u = Value.ref p := rx
  obtain ⟨z, lo, vs, rk, hd⟩ := (show ObjOk X.prog X.w H s.heap p (.dK kvs) from (I.hok p _ hk).2)
  obtain ⟨ep, hat⟩ := hd.dictAt
  have hl : kvs.length = vs.length := Paired.length rk
  refine PySem.W.kdl_call (PySem.W.kdl_dict (knd := mixKind X.prog X.w) (kvs := vs) (ep := ep) lo) (I.ok.hd hc) hat (by rw [← hl]; exact z) fun h' tk acc' c' hkeep hS hacc => ?_
  refine ⟨.ref s.heap.objs.size, upd H s.heap.objs.size (.lst (kvs.map fun kv => L2.kV kv.1)), I.laid hkeep (Nat.le_refl _) (show ObjOk X.prog X.w _ _ _ (.lst (kvs.map fun kv => L2.kV kv.1)) from ⟨?_, acc'.toList, c', ?_, ?_⟩), rfl, q _ (I.hok.fresh (Nat.le_refl _))⟩
  · rw [List.length_map]; exact z
  · have el : acc'.toList.length = acc'.size := by simp
    refine vals_of_at (by rw [List.length_map, el, hacc.1, hl]) fun j x w h1 h2 => ?_
    obtain ⟨k, y, hky, hi⟩ := hacc.2 j w (by rw [← Array.getElem?_toList]; exact h2)
    have e1 : (kvs.map (·.1))[j]? = some k := by
      rw [KV.keys rk, List.getElem?_map, hky] <;> rfl
    have e2 : (kvs.map fun kv => L2.kV kv.1)[j]? = some (L2.kV k) := by
      have e3 : (kvs.map fun kv => L2.kV kv.1) = (kvs.map (·.1)).map L2.kV := by rw [List.map_map] <;> rfl
      rw [e3, List.getElem?_map, e1] <;> rfl
    rw [e2] at h1
    cases h1
    exact keyIs_rel hi
  · rw [Array.toArray_toList]; exact hS
def eLstF (f : WE) : WE := fun c P X => f c (fun r c1 => fdR r fun kvs => P (.own (keyX kvs)) c1) X
theorem de_lstF {x : Str} {p : Pos} (hc : X.calm = true) (hg : Gl X x) (hm : X.mg x = none) (hv : bootBuiltins x = some (.type "list")) (ha : PE X e (tE Δ f)) (hn : x ≠ "__name__" := by decide) (hdb : (x == ("__debug__" : Str)) = false := by decide)
    (he : starEach (e :: []) X.env = (false, eval e X.env) :: starEach [] X.env := by rfl) (hpl : (backTo pos (starEach [] X.env)).any (·.1) = false := by rfl) : PE X (.Call (.Name x p) [e] [] pos) (tE Δ (eLstF f)) := by
  refine (pe_callTy (call_list_fK hc) hg hm hv (pa_cons ha pa_nil he) hn hdb he hpl).imp fun σ H Q ⟨am, F, c, P, XX, ok, hf, kq, kx⟩ => ?_
  refine ⟨am, F, c, _, XX, ok, hf, fun r1 c1 F1 v1 H1 p1 l1 o1 s1 => ?_, kx⟩
  obtain ⟨kvs, rfl, p1⟩ := p1
  obtain ⟨a, o, ws, e1, e2, e3⟩ := rp_dc s1.1
  subst e1
  refine ⟨a, o, ws, rfl, o1.fh _ _ e2, fun q hq => ?_⟩
  obtain ⟨o', rs⟩ := Rs.fresh o1 hq e3.keysA
  exact kq _ c1 F1 _ _ p1 l1 o' rs
/-- xs.index(k), a name's list of whole numbers -/
def intsL (x : Px) (q : List Int → Prop) : Prop := ∃ ns : List Int, x = .list (ns.map .int) ∧ q ns
def eIdx (i : Nat) (fb : WE) : WE := fun c P X => (slotD c i fun x => ∃ xs, x = .list xs) ∧ fb c (fun r c1 => asI r fun k => slotD c1 i fun x => intsL x fun ns => k ∈ ns ∧ P (.d (.int ((ns.idxOf k : Nat) : Int))) c1) X
theorem ints_flat (ns : List Int) : (ns.map V.int).all flatV = true := by
  rw [List.all_map, List.all_eq_true]
  exact fun _ _ => rfl
theorem idx_before {k : Int} : ∀ {ns : List Int} {m : Nat} {z : Int}, m < ns.idxOf k → ns[m]? = some z → z ≠ k
  | [], m, z, _, e => by simp at e
  | a :: l, m, z, h, e => by
    rw [List.idxOf_cons] at h
    by_cases q : a = k
    · have : (a == k) = true := by simpa using q
      rw [this] at h
      exact absurd h (Nat.not_lt_zero _)
    · have : (a == k) = false := by simpa using q
      rw [this] at h
      cases m with
      | zero =>
        have : a = z := by simpa using e
        exact this ▸ q
      | succ m => exact idx_before (ns := l) (m := m) (by simpa using h) (by simpa using e)
theorem de_idx (i : Nat) {b : Expr} {x : Str} {p p2 : Pos} (hb : PE X b (tE Δ fb)) (hN : X.N[i]? = some x := by rfl)
    (hv : Vis X.env.scope x := by first | exact Or.inl rfl | exact Or.inr (Or.inl rfl) | exact Or.inr (Or.inr rfl)) (hd : (x == ("__debug__" : Str)) = false := by decide)
    (hcd : (x == ("__classdict__" : Str)) = false := by decide) (hst : starEach (b :: []) X.env = (false, eval b X.env) :: starEach [] X.env := by rfl) (hln : (p2.endLine == pos.line) = true := by rfl)
    (hfw : ((backTo pos (starEach [b] X.env)).all (fun x => !x.1) && (backToKw pos (keywordEach [] X.env)).all (fun x => x.1.isSome) && decide ([b].length + ([] : List Keyword).length + (if ([] : List Keyword).isEmpty then 0 else 1) < 30)) = true := by rfl) : PE X (.Call (.Attribute (.Name x p) "index" p2) [b] [] pos) (tE Δ (eIdx i fb)) := by
  refine (pe_bm PySem.F.plainAttrs_list PySem.F.slot_list_index PySem.F.type_list_index mt_index (pv i hN hv hd hcd) (pa_cons hb pa_nil hst) rfl hfw hln hst).imp fun σ H Q ⟨am, F, c, P, XX, ok, ⟨ho, hf⟩, kq, kx⟩ => ?_
  obtain ⟨x0, v, G, h1, ⟨xs, hxs⟩, _, _, _, hl, _⟩ := ok.look ho
  obtain ⟨a, vs, rfl, h2, _⟩ := hl xs hxs
  refine ⟨_, h1, Or.inl ⟨rfl, _, SqL.of h2⟩, am, F, c, _, XX, ok, hf, fun r c1 F1 v1 H1 p1 l1 o1 s1 => ?_, kx⟩
  obtain ⟨k, rfl, p1⟩ := asI_of p1
  have w1 := s1.1
  cases w1
  obtain ⟨x1, v2, G2, g1, ⟨ns, hns, hk, q⟩, _, _, _, hl2, _⟩ := o1.look p1
  obtain ⟨a2, us, rfl, g2, g3⟩ := hl2 _ hns
  rw [h1] at g1
  cases g1
  have eu := RpA.ints_of g3
  subst eu
  have hlt : ns.idxOf k < ns.length := List.idxOf_lt_length_iff.mpr hk
  refine ⟨a, ns.map V.int, .int k, ns.idxOf k, .int k, rfl, rfl, SqL.of g2, rfl, ints_flat ns, ?_, by simp [eqV], fun m z' hm hz => ?_, kq _ c1 F1 _ H1 q l1 o1 (.of (.int _))⟩
  · rw [List.getElem?_map, List.getElem?_eq_getElem hlt, List.getElem_idxOf hlt]
    rfl
  · rw [List.getElem?_map] at hz
    cases hn : ns[m]? with
    | none => rw [hn] at hz; cases hz
    | some y =>
      rw [hn] at hz
      have hz : V.int y = z' := by simpa using hz
      have := idx_before hm hn
      rw [← hz]
      simpa [eqV] using this
end
end Dl
set_option Elab.async false
set_option maxRecDepth 100000
set_option linter.all false
set_option autoImplicit false
set_option maxHeartbeats 4000000
open PySem L2 Dl
local macro_rules | `(tactic| simp -dsimp only [rR_, $xs,*]) => `(tactic| simp -dsimp only [$xs,*, eLstK, eFrz, eBor, eFrzC, iDk, iDi, eLstF, eIdx, ↓fdR_d, eDIxF, ↓eDInF_t, ↓eDInF_f, ↓fdD_eq, ↓slotFd_k, isFd, ↓inDD_t, eRem, eDisp0, eDispW, eIxW, wPairs, ↓ixW_d, eMaxL, ↓inDD_l, ↓sumC_l, ↓sumC_t, ↓ifdiv_i, sSeq, sAsg, sRet, sIf, sExp, ↓sFor_eq, sPar2, sPar3, ↓sSetI_eq, eRevT, ↓revD_t, eRevL, ↓revLD_l, eDisp1, eDIx, ↓eDIn_t, ↓eDIn_f, sDctP, sRetD, eDIxC, ePop0, ↓dicD_eq, ↓slotDc_k, ↓dicR_k, ↓hdX_c, isDic, ↓sSetIA_eq, ↓sSetIM_eq, sUnp2, ↓sAug_eq, ↓slotA_d, ↓sSetG_eq, sRetG, sGL, sGP, sNil, sBrk, sCnt, sNo, ↓eName_eq, ↓slotE_d, ↓slotE_gen, ↓slotE_scr, ↓slotE_own, eC, eOp, eUn, eSc, eScL, eScR, eCh, eAnd, eOr, eNot, eIf, eTup, eLst, eCB, eIx, eIxN, eSl, eSlN, eSlS, eAddN, eLenN, eApp, eExt, ePop, ↓eCallP_eq, ↓eCallG_eq, eIsi, eGL, eGS, eGC, eGP, aNil, aCons, ↓wB_eq, wTru, wTruN, wAnd, wOr, wNot, wYes, gN, ↓gT_d, ↓gL_own, ↓gL_d, ↓gsC, ↓gsN, oNone, ↓oSome_eq, ↓asI_i, iLst, iTpl, iRg1, iRg2, iRg3, iEnm, iEnmT, iZp, iZpT, iZp3, iScr, ↓eLc_eq, hasD, ↓slotD_eq, ↓slotK_d, ↓slotK_own, ↓ownD_eq, ↓slotO_own, isOwn, scrD, putE, asDs, ↓asD_d, ↓asD_own, ↓argR_d, ↓argR_own, ↓argR_gen, ↓argR_scr, ↓asL_own, ↓asL_d, ↓asT_d, ↓asB_d, ↓sub_i, ↓iadd_i, ↓strC_i, ↓mul_i, ↓fdiv_i, ↓fdivB_i, ↓mod_i, ↓pow_i, ↓lt_i, ↓le_i, ↓gt_i, ↓ge_i, ↓add_i, ↓add_l, ↓add_t, ↓cat_i, ↓cat_l, ↓cat_t, ↓neg_i, ↓eqf_i, ↓eqt_i, ↓lenC_l, ↓lenC_t, ↓absC_i, ↓intC_i, ↓tupC_l, ↓tupC_t, ↓max2C_i, ↓min2C_i, ↓lenC_s, ↓reprC_b, ↓reprA_b, ↓reprA_i, ↓reprA_t, ↓reprC_i, ↓reprN_n, ↓reprN_b, ↓reprN_i, ↓reprN_t, ↓gcdC_i, ↓isBD_f, ↓isBD_t, ↓eqf_rb, ↓eqt_rb, ↓eqt_ri, ↓slD_t, ↓max3C_i, ↓ixt0, ↓ixt1, ↓ixt2, ↓ixt3, ↓ixl0, ↓ixl1, ↓ixtl, ↓ixll, truD, lenD, startC, endP, List.map_cons, List.map_nil, List.length_cons, List.length_nil, List.cons_append, List.nil_append, List.getElem?_cons_zero, List.getElem?_cons_succ, List.set_cons_zero, List.set_cons_succ, List.replicate_succ, List.replicate_zero, Nat.reduceSub, Nat.reduceAdd, Nat.reduceLT, Option.isSome_some, true_and, and_true, ne_eq, not_false_eq_true, reduceCtorEq, if_true, if_false, Bool.false_eq_true, decide_eq_true_eq, List.mem_cons, List.not_mem_nil, or_self, or_false, false_or, ↓reprM_n, ↓reprM_b, ↓reprM_i, ↓reprM_t, ↓reprM_l, eHeard, ↓lam_eq, ↓lamM_n, ↓lamM_c, ↓dropO_d, ↓dropO_g, ↓dropO_s, ↓dropO_n, ↓dropO_o, ↓dropO_k, ↓wrapR_t, ↓wrapR_f, sRaise2, ↓rz2_d, eCallB, ↓nog_eq, ↓dropG_n, ↓dropG_g, ↓dropG_d, ↓dropG_o, ↓dropG_s, ↓dropG_k])
local macro_rules | `(tactic| simp -dsimp only [rR_]) => `(tactic| simp -dsimp only [eLstK, eFrz, eBor, eFrzC, iDk, iDi, eLstF, eIdx, ↓fdR_d, eDIxF, ↓eDInF_t, ↓eDInF_f, ↓fdD_eq, ↓slotFd_k, isFd, ↓inDD_t, eRem, eDisp0, eDispW, eIxW, wPairs, ↓ixW_d, eMaxL, ↓inDD_l, ↓sumC_l, ↓sumC_t, ↓ifdiv_i, sSeq, sAsg, sRet, sIf, sExp, ↓sFor_eq, sPar2, sPar3, ↓sSetI_eq, eRevT, ↓revD_t, eRevL, ↓revLD_l, eDisp1, eDIx, ↓eDIn_t, ↓eDIn_f, sDctP, sRetD, eDIxC, ePop0, ↓dicD_eq, ↓slotDc_k, ↓dicR_k, ↓hdX_c, isDic, ↓sSetIA_eq, ↓sSetIM_eq, sUnp2, ↓sAug_eq, ↓slotA_d, ↓sSetG_eq, sRetG, sGL, sGP, sNil, sBrk, sCnt, sNo, ↓eName_eq, ↓slotE_d, ↓slotE_gen, ↓slotE_scr, ↓slotE_own, eC, eOp, eUn, eSc, eScL, eScR, eCh, eAnd, eOr, eNot, eIf, eTup, eLst, eCB, eIx, eIxN, eSl, eSlN, eSlS, eAddN, eLenN, eApp, eExt, ePop, ↓eCallP_eq, ↓eCallG_eq, eIsi, eGL, eGS, eGC, eGP, aNil, aCons, ↓wB_eq, wTru, wTruN, wAnd, wOr, wNot, wYes, gN, ↓gT_d, ↓gL_own, ↓gL_d, ↓gsC, ↓gsN, oNone, ↓oSome_eq, ↓asI_i, iLst, iTpl, iRg1, iRg2, iRg3, iEnm, iEnmT, iZp, iZpT, iZp3, iScr, ↓eLc_eq, hasD, ↓slotD_eq, ↓slotK_d, ↓slotK_own, ↓ownD_eq, ↓slotO_own, isOwn, scrD, putE, asDs, ↓asD_d, ↓asD_own, ↓argR_d, ↓argR_own, ↓argR_gen, ↓argR_scr, ↓asL_own, ↓asL_d, ↓asT_d, ↓asB_d, ↓sub_i, ↓iadd_i, ↓strC_i, ↓mul_i, ↓fdiv_i, ↓fdivB_i, ↓mod_i, ↓pow_i, ↓lt_i, ↓le_i, ↓gt_i, ↓ge_i, ↓add_i, ↓add_l, ↓add_t, ↓cat_i, ↓cat_l, ↓cat_t, ↓neg_i, ↓eqf_i, ↓eqt_i, ↓lenC_l, ↓lenC_t, ↓absC_i, ↓intC_i, ↓tupC_l, ↓tupC_t, ↓max2C_i, ↓min2C_i, ↓lenC_s, ↓reprC_b, ↓reprA_b, ↓reprA_i, ↓reprA_t, ↓reprC_i, ↓reprN_n, ↓reprN_b, ↓reprN_i, ↓reprN_t, ↓gcdC_i, ↓isBD_f, ↓isBD_t, ↓eqf_rb, ↓eqt_rb, ↓eqt_ri, ↓slD_t, ↓max3C_i, ↓ixt0, ↓ixt1, ↓ixt2, ↓ixt3, ↓ixl0, ↓ixl1, ↓ixtl, ↓ixll, truD, lenD, startC, endP, List.map_cons, List.map_nil, List.length_cons, List.length_nil, List.cons_append, List.nil_append, List.getElem?_cons_zero, List.getElem?_cons_succ, List.set_cons_zero, List.set_cons_succ, List.replicate_succ, List.replicate_zero, Nat.reduceSub, Nat.reduceAdd, Nat.reduceLT, Option.isSome_some, true_and, and_true, ne_eq, not_false_eq_true, reduceCtorEq, if_true, if_false, Bool.false_eq_true, decide_eq_true_eq, List.mem_cons, List.not_mem_nil, or_self, or_false, false_or, ↓reprM_n, ↓reprM_b, ↓reprM_i, ↓reprM_t, ↓reprM_l, eHeard, ↓lam_eq, ↓lamM_n, ↓lamM_c, ↓dropO_d, ↓dropO_g, ↓dropO_s, ↓dropO_n, ↓dropO_o, ↓dropO_k, ↓wrapR_t, ↓wrapR_f, sRaise2, ↓rz2_d, eCallB, ↓nog_eq, ↓dropG_n, ↓dropG_g, ↓dropG_d, ↓dropG_o, ↓dropG_s, ↓dropG_k])
local macro_rules | `(tactic| simp only [rR_, $xs,*]) => `(tactic| simp only [$xs,*, eLstK, eFrz, eBor, eFrzC, iDk, iDi, eLstF, eIdx, ↓fdR_d, eDIxF, ↓eDInF_t, ↓eDInF_f, ↓fdD_eq, ↓slotFd_k, isFd, ↓inDD_t, eRem, eDisp0, eDispW, eIxW, wPairs, ↓ixW_d, eMaxL, ↓inDD_l, ↓sumC_l, ↓sumC_t, ↓ifdiv_i, sSeq, sAsg, sRet, sIf, sExp, ↓sFor_eq, sPar2, sPar3, ↓sSetI_eq, eRevT, ↓revD_t, eRevL, ↓revLD_l, eDisp1, eDIx, ↓eDIn_t, ↓eDIn_f, sDctP, sRetD, eDIxC, ePop0, ↓dicD_eq, ↓slotDc_k, ↓dicR_k, ↓hdX_c, isDic, ↓sSetIA_eq, ↓sSetIM_eq, sUnp2, ↓sAug_eq, ↓slotA_d, ↓sSetG_eq, sRetG, sGL, sGP, sNil, sBrk, sCnt, sNo, ↓eName_eq, ↓slotE_d, ↓slotE_gen, ↓slotE_scr, ↓slotE_own, eC, eOp, eUn, eSc, eScL, eScR, eCh, eAnd, eOr, eNot, eIf, eTup, eLst, eCB, eIx, eIxN, eSl, eSlN, eSlS, eAddN, eLenN, eApp, eExt, ePop, ↓eCallP_eq, ↓eCallG_eq, eIsi, eGL, eGS, eGC, eGP, aNil, aCons, ↓wB_eq, wTru, wTruN, wAnd, wOr, wNot, wYes, gN, ↓gT_d, ↓gL_own, ↓gL_d, ↓gsC, ↓gsN, oNone, ↓oSome_eq, ↓asI_i, iLst, iTpl, iRg1, iRg2, iRg3, iEnm, iEnmT, iZp, iZpT, iZp3, iScr, ↓eLc_eq, hasD, ↓slotD_eq, ↓slotK_d, ↓slotK_own, ↓ownD_eq, ↓slotO_own, isOwn, scrD, putE, asDs, ↓asD_d, ↓asD_own, ↓argR_d, ↓argR_own, ↓argR_gen, ↓argR_scr, ↓asL_own, ↓asL_d, ↓asT_d, ↓asB_d, ↓sub_i, ↓iadd_i, ↓strC_i, ↓mul_i, ↓fdiv_i, ↓fdivB_i, ↓mod_i, ↓pow_i, ↓lt_i, ↓le_i, ↓gt_i, ↓ge_i, ↓add_i, ↓add_l, ↓add_t, ↓cat_i, ↓cat_l, ↓cat_t, ↓neg_i, ↓eqf_i, ↓eqt_i, ↓lenC_l, ↓lenC_t, ↓absC_i, ↓intC_i, ↓tupC_l, ↓tupC_t, ↓max2C_i, ↓min2C_i, ↓lenC_s, ↓reprC_b, ↓reprA_b, ↓reprA_i, ↓reprA_t, ↓reprC_i, ↓reprN_n, ↓reprN_b, ↓reprN_i, ↓reprN_t, ↓gcdC_i, ↓isBD_f, ↓isBD_t, ↓eqf_rb, ↓eqt_rb, ↓eqt_ri, ↓slD_t, ↓max3C_i, ↓ixt0, ↓ixt1, ↓ixt2, ↓ixt3, ↓ixl0, ↓ixl1, ↓ixtl, ↓ixll, truD, lenD, startC, endP, List.map_cons, List.map_nil, List.length_cons, List.length_nil, List.cons_append, List.nil_append, List.getElem?_cons_zero, List.getElem?_cons_succ, List.set_cons_zero, List.set_cons_succ, List.replicate_succ, List.replicate_zero, Nat.reduceSub, Nat.reduceAdd, Nat.reduceLT, Option.isSome_some, true_and, and_true, ne_eq, not_false_eq_true, reduceCtorEq, if_true, if_false, Bool.false_eq_true, decide_eq_true_eq, List.mem_cons, List.not_mem_nil, or_self, or_false, false_or, ↓reprM_n, ↓reprM_b, ↓reprM_i, ↓reprM_t, ↓reprM_l, eHeard, ↓lam_eq, ↓lamM_n, ↓lamM_c, ↓dropO_d, ↓dropO_g, ↓dropO_s, ↓dropO_n, ↓dropO_o, ↓dropO_k, ↓wrapR_t, ↓wrapR_f, sRaise2, ↓rz2_d, eCallB, ↓nog_eq, ↓dropG_n, ↓dropG_g, ↓dropG_d, ↓dropG_o, ↓dropG_s, ↓dropG_k])
local macro_rules | `(tactic| simp only [rR_]) => `(tactic| simp only [eLstK, eFrz, eBor, eFrzC, iDk, iDi, eLstF, eIdx, ↓fdR_d, eDIxF, ↓eDInF_t, ↓eDInF_f, ↓fdD_eq, ↓slotFd_k, isFd, ↓inDD_t, eRem, eDisp0, eDispW, eIxW, wPairs, ↓ixW_d, eMaxL, ↓inDD_l, ↓sumC_l, ↓sumC_t, ↓ifdiv_i, sSeq, sAsg, sRet, sIf, sExp, ↓sFor_eq, sPar2, sPar3, ↓sSetI_eq, eRevT, ↓revD_t, eRevL, ↓revLD_l, eDisp1, eDIx, ↓eDIn_t, ↓eDIn_f, sDctP, sRetD, eDIxC, ePop0, ↓dicD_eq, ↓slotDc_k, ↓dicR_k, ↓hdX_c, isDic, ↓sSetIA_eq, ↓sSetIM_eq, sUnp2, ↓sAug_eq, ↓slotA_d, ↓sSetG_eq, sRetG, sGL, sGP, sNil, sBrk, sCnt, sNo, ↓eName_eq, ↓slotE_d, ↓slotE_gen, ↓slotE_scr, ↓slotE_own, eC, eOp, eUn, eSc, eScL, eScR, eCh, eAnd, eOr, eNot, eIf, eTup, eLst, eCB, eIx, eIxN, eSl, eSlN, eSlS, eAddN, eLenN, eApp, eExt, ePop, ↓eCallP_eq, ↓eCallG_eq, eIsi, eGL, eGS, eGC, eGP, aNil, aCons, ↓wB_eq, wTru, wTruN, wAnd, wOr, wNot, wYes, gN, ↓gT_d, ↓gL_own, ↓gL_d, ↓gsC, ↓gsN, oNone, ↓oSome_eq, ↓asI_i, iLst, iTpl, iRg1, iRg2, iRg3, iEnm, iEnmT, iZp, iZpT, iZp3, iScr, ↓eLc_eq, hasD, ↓slotD_eq, ↓slotK_d, ↓slotK_own, ↓ownD_eq, ↓slotO_own, isOwn, scrD, putE, asDs, ↓asD_d, ↓asD_own, ↓argR_d, ↓argR_own, ↓argR_gen, ↓argR_scr, ↓asL_own, ↓asL_d, ↓asT_d, ↓asB_d, ↓sub_i, ↓iadd_i, ↓strC_i, ↓mul_i, ↓fdiv_i, ↓fdivB_i, ↓mod_i, ↓pow_i, ↓lt_i, ↓le_i, ↓gt_i, ↓ge_i, ↓add_i, ↓add_l, ↓add_t, ↓cat_i, ↓cat_l, ↓cat_t, ↓neg_i, ↓eqf_i, ↓eqt_i, ↓lenC_l, ↓lenC_t, ↓absC_i, ↓intC_i, ↓tupC_l, ↓tupC_t, ↓max2C_i, ↓min2C_i, ↓lenC_s, ↓reprC_b, ↓reprA_b, ↓reprA_i, ↓reprA_t, ↓reprC_i, ↓reprN_n, ↓reprN_b, ↓reprN_i, ↓reprN_t, ↓gcdC_i, ↓isBD_f, ↓isBD_t, ↓eqf_rb, ↓eqt_rb, ↓eqt_ri, ↓slD_t, ↓max3C_i, ↓ixt0, ↓ixt1, ↓ixt2, ↓ixt3, ↓ixl0, ↓ixl1, ↓ixtl, ↓ixll, truD, lenD, startC, endP, List.map_cons, List.map_nil, List.length_cons, List.length_nil, List.cons_append, List.nil_append, List.getElem?_cons_zero, List.getElem?_cons_succ, List.set_cons_zero, List.set_cons_succ, List.replicate_succ, List.replicate_zero, Nat.reduceSub, Nat.reduceAdd, Nat.reduceLT, Option.isSome_some, true_and, and_true, ne_eq, not_false_eq_true, reduceCtorEq, if_true, if_false, Bool.false_eq_true, decide_eq_true_eq, List.mem_cons, List.not_mem_nil, or_self, or_false, false_or, ↓reprM_n, ↓reprM_b, ↓reprM_i, ↓reprM_t, ↓reprM_l, eHeard, ↓lam_eq, ↓lamM_n, ↓lamM_c, ↓dropO_d, ↓dropO_g, ↓dropO_s, ↓dropO_n, ↓dropO_o, ↓dropO_k, ↓wrapR_t, ↓wrapR_f, sRaise2, ↓rz2_d, eCallB, ↓nog_eq, ↓dropG_n, ↓dropG_g, ↓dropG_d, ↓dropG_o, ↓dropG_s, ↓dropG_k])
local macro_rules | `(tactic| simp -dsimp only [rQ_, $xs,*]) => `(tactic| simp -dsimp only [$xs,*, eLstK, eFrz, eBor, eFrzC, iDk, iDi, eLstF, eIdx, fdR_d, eDIxF, eDInF_t, eDInF_f, fdD_eq, slotFd_k, isFd, inDD_t, eRem, eDisp0, eDispW, eIxW, wPairs, ixW_d, eMaxL, inDD_l, sumC_l, sumC_t, ifdiv_i, sSeq, sAsg, sRet, sIf, sExp, sFor_eq, sPar2, sPar3, sSetI_eq, eRevT, revD_t, eRevL, revLD_l, eDisp1, eDIx, eDIn_t, eDIn_f, sDctP, sRetD, eDIxC, ePop0, dicD_eq, slotDc_k, dicR_k, hdX_c, isDic, sSetIA_eq, sSetIM_eq, sUnp2, sAug_eq, slotA_d, sSetG_eq, sRetG, sGL, sGP, sNil, sBrk, sCnt, sNo, eName_eq, slotE_d, slotE_gen, slotE_scr, slotE_own, eC, eOp, eUn, eSc, eScL, eScR, eCh, eAnd, eOr, eNot, eIf, eTup, eLst, eCB, eIx, eIxN, eSl, eSlN, eSlS, eAddN, eLenN, eApp, eExt, ePop, eCallP_eq, eCallG_eq, eIsi, eGL, eGS, eGC, eGP, aNil, aCons, wB_eq, wTru, wTruN, wAnd, wOr, wNot, wYes, gN, gT_d, gL_own, gL_d, gsC, gsN, oNone, oSome_eq, asI_i, iLst, iTpl, iRg1, iRg2, iRg3, iEnm, iEnmT, iZp, iZpT, iZp3, iScr, eLc_eq, hasD, slotD_eq, slotK_d, slotK_own, ownD_eq, slotO_own, isOwn, scrD, putE, asDs, asD_d, asD_own, argR_d, argR_own, argR_gen, argR_scr, asL_own, asL_d, asT_d, asB_d, sub_i, iadd_i, strC_i, mul_i, fdiv_i, fdivB_i, mod_i, pow_i, lt_i, le_i, gt_i, ge_i, add_i, add_l, add_t, cat_i, cat_l, cat_t, neg_i, eqf_i, eqt_i, lenC_l, lenC_t, absC_i, intC_i, tupC_l, tupC_t, max2C_i, min2C_i, lenC_s, reprC_b, reprA_b, reprA_i, reprA_t, reprC_i, reprN_n, reprN_b, reprN_i, reprN_t, gcdC_i, isBD_f, isBD_t, eqf_rb, eqt_rb, eqt_ri, slD_t, max3C_i, ixt0, ixt1, ixt2, ixt3, ixl0, ixl1, ixtl, ixll, truD, lenD, startC, endP, List.map_cons, List.map_nil, List.length_cons, List.length_nil, List.cons_append, List.nil_append, List.getElem?_cons_zero, List.getElem?_cons_succ, List.set_cons_zero, List.set_cons_succ, List.replicate_succ, List.replicate_zero, Nat.reduceSub, Nat.reduceAdd, Nat.reduceLT, Option.isSome_some, true_and, and_true, ne_eq, not_false_eq_true, reduceCtorEq, if_true, if_false, Bool.false_eq_true, decide_eq_true_eq, List.mem_cons, List.not_mem_nil, or_self, or_false, false_or, reprM_n, reprM_b, reprM_i, reprM_t, reprM_l, eHeard, lam_eq, lamM_n, lamM_c, dropO_d, dropO_g, dropO_s, dropO_n, dropO_o, dropO_k, wrapR_t, wrapR_f, sRaise2, rz2_d, eCallB, nog_eq, dropG_n, dropG_g, dropG_d, dropG_o, dropG_s, dropG_k])
local macro_rules | `(tactic| simp -dsimp only [rQ_]) => `(tactic| simp -dsimp only [eLstK, eFrz, eBor, eFrzC, iDk, iDi, eLstF, eIdx, fdR_d, eDIxF, eDInF_t, eDInF_f, fdD_eq, slotFd_k, isFd, inDD_t, eRem, eDisp0, eDispW, eIxW, wPairs, ixW_d, eMaxL, inDD_l, sumC_l, sumC_t, ifdiv_i, sSeq, sAsg, sRet, sIf, sExp, sFor_eq, sPar2, sPar3, sSetI_eq, eRevT, revD_t, eRevL, revLD_l, eDisp1, eDIx, eDIn_t, eDIn_f, sDctP, sRetD, eDIxC, ePop0, dicD_eq, slotDc_k, dicR_k, hdX_c, isDic, sSetIA_eq, sSetIM_eq, sUnp2, sAug_eq, slotA_d, sSetG_eq, sRetG, sGL, sGP, sNil, sBrk, sCnt, sNo, eName_eq, slotE_d, slotE_gen, slotE_scr, slotE_own, eC, eOp, eUn, eSc, eScL, eScR, eCh, eAnd, eOr, eNot, eIf, eTup, eLst, eCB, eIx, eIxN, eSl, eSlN, eSlS, eAddN, eLenN, eApp, eExt, ePop, eCallP_eq, eCallG_eq, eIsi, eGL, eGS, eGC, eGP, aNil, aCons, wB_eq, wTru, wTruN, wAnd, wOr, wNot, wYes, gN, gT_d, gL_own, gL_d, gsC, gsN, oNone, oSome_eq, asI_i, iLst, iTpl, iRg1, iRg2, iRg3, iEnm, iEnmT, iZp, iZpT, iZp3, iScr, eLc_eq, hasD, slotD_eq, slotK_d, slotK_own, ownD_eq, slotO_own, isOwn, scrD, putE, asDs, asD_d, asD_own, argR_d, argR_own, argR_gen, argR_scr, asL_own, asL_d, asT_d, asB_d, sub_i, iadd_i, strC_i, mul_i, fdiv_i, fdivB_i, mod_i, pow_i, lt_i, le_i, gt_i, ge_i, add_i, add_l, add_t, cat_i, cat_l, cat_t, neg_i, eqf_i, eqt_i, lenC_l, lenC_t, absC_i, intC_i, tupC_l, tupC_t, max2C_i, min2C_i, lenC_s, reprC_b, reprA_b, reprA_i, reprA_t, reprC_i, reprN_n, reprN_b, reprN_i, reprN_t, gcdC_i, isBD_f, isBD_t, eqf_rb, eqt_rb, eqt_ri, slD_t, max3C_i, ixt0, ixt1, ixt2, ixt3, ixl0, ixl1, ixtl, ixll, truD, lenD, startC, endP, List.map_cons, List.map_nil, List.length_cons, List.length_nil, List.cons_append, List.nil_append, List.getElem?_cons_zero, List.getElem?_cons_succ, List.set_cons_zero, List.set_cons_succ, List.replicate_succ, List.replicate_zero, Nat.reduceSub, Nat.reduceAdd, Nat.reduceLT, Option.isSome_some, true_and, and_true, ne_eq, not_false_eq_true, reduceCtorEq, if_true, if_false, Bool.false_eq_true, decide_eq_true_eq, List.mem_cons, List.not_mem_nil, or_self, or_false, false_or, reprM_n, reprM_b, reprM_i, reprM_t, reprM_l, eHeard, lam_eq, lamM_n, lamM_c, dropO_d, dropO_g, dropO_s, dropO_n, dropO_o, dropO_k, wrapR_t, wrapR_f, sRaise2, rz2_d, eCallB, nog_eq, dropG_n, dropG_g, dropG_d, dropG_o, dropG_s, dropG_k])
local macro_rules | `(tactic| simp only [rQ_, $xs,*]) => `(tactic| simp only [$xs,*, eLstK, eFrz, eBor, eFrzC, iDk, iDi, eLstF, eIdx, fdR_d, eDIxF, eDInF_t, eDInF_f, fdD_eq, slotFd_k, isFd, inDD_t, eRem, eDisp0, eDispW, eIxW, wPairs, ixW_d, eMaxL, inDD_l, sumC_l, sumC_t, ifdiv_i, sSeq, sAsg, sRet, sIf, sExp, sFor_eq, sPar2, sPar3, sSetI_eq, eRevT, revD_t, eRevL, revLD_l, eDisp1, eDIx, eDIn_t, eDIn_f, sDctP, sRetD, eDIxC, ePop0, dicD_eq, slotDc_k, dicR_k, hdX_c, isDic, sSetIA_eq, sSetIM_eq, sUnp2, sAug_eq, slotA_d, sSetG_eq, sRetG, sGL, sGP, sNil, sBrk, sCnt, sNo, eName_eq, slotE_d, slotE_gen, slotE_scr, slotE_own, eC, eOp, eUn, eSc, eScL, eScR, eCh, eAnd, eOr, eNot, eIf, eTup, eLst, eCB, eIx, eIxN, eSl, eSlN, eSlS, eAddN, eLenN, eApp, eExt, ePop, eCallP_eq, eCallG_eq, eIsi, eGL, eGS, eGC, eGP, aNil, aCons, wB_eq, wTru, wTruN, wAnd, wOr, wNot, wYes, gN, gT_d, gL_own, gL_d, gsC, gsN, oNone, oSome_eq, asI_i, iLst, iTpl, iRg1, iRg2, iRg3, iEnm, iEnmT, iZp, iZpT, iZp3, iScr, eLc_eq, hasD, slotD_eq, slotK_d, slotK_own, ownD_eq, slotO_own, isOwn, scrD, putE, asDs, asD_d, asD_own, argR_d, argR_own, argR_gen, argR_scr, asL_own, asL_d, asT_d, asB_d, sub_i, iadd_i, strC_i, mul_i, fdiv_i, fdivB_i, mod_i, pow_i, lt_i, le_i, gt_i, ge_i, add_i, add_l, add_t, cat_i, cat_l, cat_t, neg_i, eqf_i, eqt_i, lenC_l, lenC_t, absC_i, intC_i, tupC_l, tupC_t, max2C_i, min2C_i, lenC_s, reprC_b, reprA_b, reprA_i, reprA_t, reprC_i, reprN_n, reprN_b, reprN_i, reprN_t, gcdC_i, isBD_f, isBD_t, eqf_rb, eqt_rb, eqt_ri, slD_t, max3C_i, ixt0, ixt1, ixt2, ixt3, ixl0, ixl1, ixtl, ixll, truD, lenD, startC, endP, List.map_cons, List.map_nil, List.length_cons, List.length_nil, List.cons_append, List.nil_append, List.getElem?_cons_zero, List.getElem?_cons_succ, List.set_cons_zero, List.set_cons_succ, List.replicate_succ, List.replicate_zero, Nat.reduceSub, Nat.reduceAdd, Nat.reduceLT, Option.isSome_some, true_and, and_true, ne_eq, not_false_eq_true, reduceCtorEq, if_true, if_false, Bool.false_eq_true, decide_eq_true_eq, List.mem_cons, List.not_mem_nil, or_self, or_false, false_or, reprM_n, reprM_b, reprM_i, reprM_t, reprM_l, eHeard, lam_eq, lamM_n, lamM_c, dropO_d, dropO_g, dropO_s, dropO_n, dropO_o, dropO_k, wrapR_t, wrapR_f, sRaise2, rz2_d, eCallB, nog_eq, dropG_n, dropG_g, dropG_d, dropG_o, dropG_s, dropG_k])
local macro_rules | `(tactic| simp only [rQ_]) => `(tactic| simp only [eLstK, eFrz, eBor, eFrzC, iDk, iDi, eLstF, eIdx, fdR_d, eDIxF, eDInF_t, eDInF_f, fdD_eq, slotFd_k, isFd, inDD_t, eRem, eDisp0, eDispW, eIxW, wPairs, ixW_d, eMaxL, inDD_l, sumC_l, sumC_t, ifdiv_i, sSeq, sAsg, sRet, sIf, sExp, sFor_eq, sPar2, sPar3, sSetI_eq, eRevT, revD_t, eRevL, revLD_l, eDisp1, eDIx, eDIn_t, eDIn_f, sDctP, sRetD, eDIxC, ePop0, dicD_eq, slotDc_k, dicR_k, hdX_c, isDic, sSetIA_eq, sSetIM_eq, sUnp2, sAug_eq, slotA_d, sSetG_eq, sRetG, sGL, sGP, sNil, sBrk, sCnt, sNo, eName_eq, slotE_d, slotE_gen, slotE_scr, slotE_own, eC, eOp, eUn, eSc, eScL, eScR, eCh, eAnd, eOr, eNot, eIf, eTup, eLst, eCB, eIx, eIxN, eSl, eSlN, eSlS, eAddN, eLenN, eApp, eExt, ePop, eCallP_eq, eCallG_eq, eIsi, eGL, eGS, eGC, eGP, aNil, aCons, wB_eq, wTru, wTruN, wAnd, wOr, wNot, wYes, gN, gT_d, gL_own, gL_d, gsC, gsN, oNone, oSome_eq, asI_i, iLst, iTpl, iRg1, iRg2, iRg3, iEnm, iEnmT, iZp, iZpT, iZp3, iScr, eLc_eq, hasD, slotD_eq, slotK_d, slotK_own, ownD_eq, slotO_own, isOwn, scrD, putE, asDs, asD_d, asD_own, argR_d, argR_own, argR_gen, argR_scr, asL_own, asL_d, asT_d, asB_d, sub_i, iadd_i, strC_i, mul_i, fdiv_i, fdivB_i, mod_i, pow_i, lt_i, le_i, gt_i, ge_i, add_i, add_l, add_t, cat_i, cat_l, cat_t, neg_i, eqf_i, eqt_i, lenC_l, lenC_t, absC_i, intC_i, tupC_l, tupC_t, max2C_i, min2C_i, lenC_s, reprC_b, reprA_b, reprA_i, reprA_t, reprC_i, reprN_n, reprN_b, reprN_i, reprN_t, gcdC_i, isBD_f, isBD_t, eqf_rb, eqt_rb, eqt_ri, slD_t, max3C_i, ixt0, ixt1, ixt2, ixt3, ixl0, ixl1, ixtl, ixll, truD, lenD, startC, endP, List.map_cons, List.map_nil, List.length_cons, List.length_nil, List.cons_append, List.nil_append, List.getElem?_cons_zero, List.getElem?_cons_succ, List.set_cons_zero, List.set_cons_succ, List.replicate_succ, List.replicate_zero, Nat.reduceSub, Nat.reduceAdd, Nat.reduceLT, Option.isSome_some, true_and, and_true, ne_eq, not_false_eq_true, reduceCtorEq, if_true, if_false, Bool.false_eq_true, decide_eq_true_eq, List.mem_cons, List.not_mem_nil, or_self, or_false, false_or, reprM_n, reprM_b, reprM_i, reprM_t, reprM_l, eHeard, lam_eq, lamM_n, lamM_c, dropO_d, dropO_g, dropO_s, dropO_n, dropO_o, dropO_k, wrapR_t, wrapR_f, sRaise2, rz2_d, eCallB, nog_eq, dropG_n, dropG_g, dropG_d, dropG_o, dropG_s, dropG_k])
namespace K
open PySem L2 Dl
variable [TabF]
structure Tie where
  v : Int
  w : Int
  p : Int
  q : Int
structure Web where
  rooms : Int
  ties : List Tie
def eT (t : Tie) : Px := .tuple [.int t.v, .int t.w, .int t.p, .int t.q]
def eW (w : Web) : Px := .tuple [.int w.rooms, .tuple (w.ties.map eT)]
/-- the tie with a number -/
def Web.at (w : Web) (t : Int) (x : Tie) : Prop := ∃ i : Nat, t = (i : Int) ∧ w.ties[i]? = some x
def rev (t : Tie) (s : Int) : Tie := if s = 1 then t else ⟨t.w, t.v, t.q, t.p⟩
/-- a drawn web: rooms in range, ends not 0 and not too great -/
structure TieOk (n : Int) (gr : Int) (t : Tie) : Prop where
  v0 : 0 ≤ t.v
  v1 : t.v < n
  w0 : 0 ≤ t.w
  w1 : t.w < n
  p0 : t.p ≠ 0
  p1 : t.p.natAbs ≤ gr
  q0 : t.q ≠ 0
  q1 : t.q.natAbs ≤ gr
structure WebOk (w : Web) (gr : Int) : Prop where
  r0 : 1 ≤ w.rooms
  tie : ∀ t ∈ w.ties, TieOk w.rooms gr t
theorem WebOk.at {w : Web} {gr t : Int} {x : Tie} (h : WebOk w gr) (a : Web.at w t x) : TieOk w.rooms gr x := by
  obtain ⟨i, _, e⟩ := a
  exact h.tie x (List.mem_of_getElem? e)
theorem TieOk.rev {n gr : Int} {t : Tie} (h : TieOk n gr t) (s : Int) : TieOk n gr (rev t s) := by
  unfold K.rev
  split
  · exact h
  · exact ⟨h.w0, h.w1, h.v0, h.v1, h.q0, h.q1, h.p0, h.p1⟩
structure Stp where
  tie : Int
  side : Int
  k : Int
structure Wlk where
  room : Int
  k : Int
  steps : List Stp
def eS (s : Stp) : Px := .tuple [.int s.tie, .int s.side, .int s.k]
def eK (w : Wlk) : Px := .tuple [.int w.room, .int w.k, .tuple (w.steps.map eS)]
def eC2 (c : Int × Int) : Px := .tuple [.int c.1, .int c.2]
/-- a crossing of the web -/
def CrOk (w : Web) (t s : Int) : Prop := (∃ x, Web.at w t x) ∧ (s = 1 ∨ s = -1)
def StepsOk (w : Web) (l : List Stp) : Prop := ∀ s ∈ l, CrOk w s.tie s.side
/-! ### draws -/
structure Big (i : Int) : Prop where
  out : i.natAbs < 2 ^ 9000
abbrev C_law_draw : Cn := fun rs g Q => ∃ (b : Int) (n : Nat), rs = [.gen, .d (.int b)] ∧ g = some n ∧ n + 1 ≤ 2 ^ 40 ∧ 0 < b ∧ Big b ∧ ∀ (r : Int) (m : Nat), 0 ≤ r → r < b → m ≤ n + 1 → Q (.d (.int r)) (some m)
def w_law_draw : WS :=
  (sSeq (sIf (wB (eSc gtD (eGL 0) (eC (.int 0)))) (sSeq (sAsg (eOp modD (eCB intC (aCons (eGL 0) aNil)) (eName 1)) (gN 2))
  (sSeq (sGL 0 (eOp fdivD (eGL 0) (eName 1)))
  (sRet (eName 2)))) sNil)
  (sSeq (sAsg (eGP 0) (gN 3))
  (sSeq (sGP 0 (eAddN 3 (eC (.int 1))))
  (sSeq (sPar2 4 5 (eGC 0) (eOp addD (eGS 0) (eOp mulD (eOp mulD (eC (.int 40503)) (eName 3)) (eName 3))))
  (sSeq (sAsg (eIxN 4 (eOp modD (eCB intC (aCons (eName 3) aNil)) (eLenN 4))) (gN 6))
  (sSeq (sAsg (eOp modD (eCB intC (aCons (eOp addD (eOp mulD (eName 6) (eOp addD (eOp mulD (eC (.int 2)) (eName 3)) (eC (.int 3)))) (eName 5)) aNil)) (eC (.int 2147483647))) (gN 7))
  (sSeq (sAsg (eOp modD (eCB intC (aCons (eOp addD (eOp addD (eOp mulD (eName 7) (eName 7)) (eOp mulD (eC (.int 69621)) (eName 3))) (eGS 0)) aNil)) (eC (.int 2147483629))) (gN 7))
  (sRet (eOp modD (eOp fdivD (eOp modD (eCB intC (aCons (eOp addD (eOp mulD (eName 7) (eC (.int 48271))) (eName 3)) aNil)) (eC (.int 2147483647))) (eC (.int 11))) (eName 1))))))))))
theorem len_law_draw (rs : List Rv) (g : Option Nat) (Q : Rv → Option Nat → Prop) (h : C_law_draw rs g Q) : rs.length = 2 := by
  obtain ⟨b, n, rfl, _⟩ := h
  rfl
theorem spec_law_draw (rs : List Rv) (g : Option Nat) (Q : Rv → Option Nat → Prop) (h : C_law_draw rs g Q) : w_law_draw (startC 8 rs g) (endP Q) fun _ _ => False := by
  obtain ⟨b, n, rfl, rfl, hn, hb, hb2, hQ⟩ := h
  simp -dsimp only [rQ_, w_law_draw]
  intro l hl
  by_cases h0 : 0 < l
  · simp -dsimp only [rQ_, h0]
    intro l1 hl1
    refine ⟨by omega, fun l2 hl2 => ⟨CDiv2.g hb hb2.out, fdiv_nn hl2 hb, ?_⟩⟩
    exact hQ _ _ (fmod_b hb).1 (fmod_b hb).2 (by omega)
  · simp -dsimp only [rQ_, h0]
    refine ⟨n, rfl, by omega, fun s h1 h2 => ⟨by omega, n + 1, by omega, hn, fun ns hne hl1 sd h3 h4 => ?_⟩⟩
    have hs : s ≤ 2 ^ 40 := by omega
    have hln : (0 : Int) < ((ns.map PyData.int).length : Int) := by
      cases ns with
      | nil => exact absurd rfl hne
      | cons a r => simp only [List.map_cons, List.length_cons]; omega
    refine ⟨CMul2.l (by omega) (by omega), CMul2.r (by omega) (by omega), by omega, ixl_of (fmod_b hln).1 (fmod_b hln).2 fun x hx => ?_⟩
    obtain ⟨c, _, rfl⟩ := List.mem_map.mp hx
    refine ⟨CMul2.l (by omega) (by omega), ?_⟩
    try simp -dsimp only [rQ_]
    refine ⟨CMul2.r (by omega) (by omega), by omega, ?_⟩
    have hb1 := fmod_b (i := c * (2 * s + 3) + (sd + 40503 * s * s)) (b := 2147483647) (by omega)
    refine ⟨CMul2.l (by omega) (by omega), CMul2.l (by omega) (by omega), fun sd2 h5 h6 => ⟨by omega, CMul2.r (by omega) (by omega), by omega, CDiv2.s (by omega) (by omega) (by omega), by omega, ?_⟩⟩
    exact hQ _ _ (fmod_b hb).1 (fmod_b hb).2 (by omega)
abbrev C_law_of : Cn := fun rs g Q => ∃ (xs : List Px) (n : Nat), rs = [.gen, .d (.list xs)] ∧ g = some n ∧ n + 1 ≤ 2 ^ 40 ∧ xs ≠ [] ∧ xs.length ≤ 1000000 ∧ ∀ x ∈ xs, ∀ m : Nat, m ≤ n + 1 → Q (.d x) (some m)
def w_law_of : WS :=
  (sRet (eIxN 1 (eCallG C_law_draw (aCons (eName 0) (aCons (eLenN 1) aNil)))))
theorem len_law_of (rs : List Rv) (g : Option Nat) (Q : Rv → Option Nat → Prop) (h : C_law_of rs g Q) : rs.length = 2 := by
  obtain ⟨b, n, rfl, _⟩ := h
  rfl
theorem pow9000 {i : Int} (h0 : 0 ≤ i) (h : i ≤ 10000000) : Big i :=
  ⟨Nat.lt_of_lt_of_le (show i.natAbs < 2 ^ 24 by omega) (Nat.pow_le_pow_right (by decide) (by decide))⟩
theorem spec_law_of (rs : List Rv) (g : Option Nat) (Q : Rv → Option Nat → Prop) (h : C_law_of rs g Q) : w_law_of (startC 2 rs g) (endP Q) fun _ _ => False := by
  obtain ⟨xs, n, rfl, rfl, hn, hx, hl, hQ⟩ := h
  have h0 : (0 : Int) < (xs.length : Int) := by
    cases xs with
    | nil => exact absurd rfl hx
    | cons a r => simp only [List.length_cons]; omega
  simp -dsimp only [rQ_, w_law_of, C_law_draw]
  refine ⟨_, n, rfl, rfl, hn, h0, pow9000 (by omega) (by omega), fun r m h1 h2 h3 => ?_⟩
  try simp -dsimp only [rQ_]
  exact ixl_of h1 h2 fun x hx => hQ x hx m h3
abbrev C_law_turns : Cn := fun rs g Q => ∃ (gr : Int) (n : Nat), rs = [.gen, .d (.int gr)] ∧ g = some n ∧ n + 3 ≤ 2 ^ 40 ∧ 0 < gr ∧ Big gr ∧ ∀ (k : Int) (m : Nat), (k.natAbs ≤ gr ∨ k.natAbs ≤ 4) → m ≤ n + 3 → Q (.d (.int k)) (some m)
def w_law_turns : WS :=
  (sSeq (sIf (wB (eSc (eqD false) (eCallG C_law_draw (aCons (eName 0) (aCons (eC (.int 5)) aNil))) (eC (.int 0)))) (sRet (eOp mulD (eOp addD (eCallG C_law_draw (aCons (eName 0) (aCons (eName 1) aNil))) (eC (.int 1))) (eCallG C_law_of (aCons (eName 0) (aCons (eLst (aCons (eC (.int 1)) (aCons (eUn negD (eC (.int 1))) aNil))) aNil))))) sNil)
  (sRet (eOp subD (eCallG C_law_draw (aCons (eName 0) (aCons (eC (.int 9)) aNil))) (eC (.int 4)))))
theorem len_law_turns (rs : List Rv) (g : Option Nat) (Q : Rv → Option Nat → Prop) (h : C_law_turns rs g Q) : rs.length = 2 := by
  obtain ⟨b, n, rfl, _⟩ := h
  rfl
theorem spec_law_turns (rs : List Rv) (g : Option Nat) (Q : Rv → Option Nat → Prop) (h : C_law_turns rs g Q) : w_law_turns (startC 2 rs g) (endP Q) fun _ _ => False := by
  obtain ⟨gr, n, rfl, rfl, hn, hg, hg2, hQ⟩ := h
  simp -dsimp only [rQ_, w_law_turns, C_law_draw, C_law_of]
  refine ⟨_, n, rfl, rfl, by omega, by omega, pow9000 (by omega) (by omega), fun r m h1 h2 h3 => ?_⟩
  try simp -dsimp only [rQ_]
  by_cases hr : r = 0
  · simp -dsimp only [rQ_, hr, beq_self_eq_true]
    refine ⟨_, m, rfl, rfl, by omega, hg, hg2, fun r1 m1 h4 h5 h6 => ?_⟩
    try simp -dsimp only [rQ_]
    refine ⟨by simp, _, m1, rfl, rfl, by omega, by simp, by simp, fun x hx m2 h7 => ?_⟩
    simp only [List.mem_cons, List.not_mem_nil, or_false] at hx
    rcases hx with rfl | rfl
    · simp -dsimp only [rQ_]
      exact ⟨CMul2.r (by omega) (by omega), hQ _ _ (by omega) (by omega)⟩
    · simp -dsimp only [rQ_]
      exact ⟨CMul2.r (by omega) (by omega), hQ _ _ (by omega) (by omega)⟩
  · have hb : (r == 0) = false := by simpa using hr
    simp -dsimp only [rQ_, hb]
    refine ⟨_, m, rfl, rfl, by omega, by omega, pow9000 (by omega) (by omega), fun r1 m1 h4 h5 h6 => ?_⟩
    try simp -dsimp only [rQ_]
    exact hQ _ _ (by omega) (by omega)
abbrev C_law_ends : Cn := fun rs g Q => ∃ w t s x, rs = [.d (eW w), .d (.int t), .d (.int s)] ∧ Web.at w t x ∧ Q (.d (eT (rev x s))) g
def w_law_ends : WS :=
  (sSeq (sAsg (eIx (eIxN 0 (eC (.int 1))) (eName 1)) (gT 4 (gsCons (gN 3) (gsCons (gN 4) (gsCons (gN 5) (gsCons (gN 6) gsNil))))))
  (sRet (eIf (wB (eScL 2 (eqD false) (eC (.int 1)))) (eTup (aCons (eName 3) (aCons (eName 4) (aCons (eName 5) (aCons (eName 6) aNil))))) (eTup (aCons (eName 4) (aCons (eName 3) (aCons (eName 6) (aCons (eName 5) aNil))))))))
theorem len_law_ends (rs : List Rv) (g : Option Nat) (Q : Rv → Option Nat → Prop) (h : C_law_ends rs g Q) : rs.length = 3 := by
  obtain ⟨w, t, s, x, rfl, _⟩ := h
  rfl
theorem spec_law_ends (rs : List Rv) (g : Option Nat) (Q : Rv → Option Nat → Prop) (h : C_law_ends rs g Q) : w_law_ends (startC 7 rs g) (endP Q) fun _ _ => False := by
  obtain ⟨w, t, s, x, rfl, ⟨i, rfl, hx⟩, hQ⟩ := h
  simp -dsimp only [rQ_, w_law_ends, eW]
  rw [ixtn (map_of eT hx)]
  simp -dsimp only [rQ_, eT]
  unfold rev at hQ
  by_cases hs : s = 1
  · rw [if_pos hs] at hQ
    simp -dsimp only [rQ_, hs, beq_self_eq_true]
    exact ⟨by decide, hQ⟩
  · rw [if_neg hs] at hQ
    have hb : (s == 1) = false := by simpa using hs
    simp -dsimp only [rQ_, hb]
    exact ⟨by decide, hQ⟩
/-- the crossings out of a room over the first ties -/
def outsN (w : Web) (room : Int) (n : Nat) : List (Int × Int) := (List.range n).flatMap fun i => match w.ties[i]? with
  | some t => (if t.v = room then [((i : Int), 1)] else []) ++ (if t.w = room then [((i : Int), -1)] else [])
  | none => []
theorem outsN_succ (w : Web) (room : Int) (n : Nat) {t : Tie} (h : w.ties[n]? = some t) : outsN w room (n + 1) = outsN w room n ++ ((if t.v = room then [((n : Int), 1)] else []) ++ (if t.w = room then [((n : Int), -1)] else [])) := by
  unfold outsN
  rw [List.range_succ, List.flatMap_append]
  simp only [List.flatMap_cons, List.flatMap_nil, List.append_nil, h]
theorem outsN_len (w : Web) (room : Int) (n : Nat) : (outsN w room n).length ≤ 2 * n := by
  unfold outsN
  induction n with
  | zero => simp
  | succ n ih =>
    rw [List.range_succ, List.flatMap_append, List.length_append]
    simp only [List.flatMap_cons, List.flatMap_nil, List.append_nil]
    have : (match w.ties[n]? with
        | some t => (if t.v = room then [((n : Int), (1 : Int))] else []) ++ (if t.w = room then [((n : Int), (-1 : Int))] else [])
        | none => ([] : List (Int × Int))).length ≤ 2 := by
      split
      · split <;> split <;> simp
      · simp
    omega
def outs (w : Web) (room : Int) : List (Int × Int) := outsN w room w.ties.length
theorem outs_len (w : Web) (room : Int) : (outs w room).length ≤ 2 * w.ties.length := outsN_len w room _
theorem outs_ok {w : Web} {room : Int} {c : Int × Int} (h : c ∈ outs w room) : CrOk w c.1 c.2 ∧ ∀ x, Web.at w c.1 x → (rev x c.2).v = room := by
  unfold outs outsN at h
  obtain ⟨i, _, h⟩ := List.mem_flatMap.mp h
  cases e : w.ties[i]? with
  | none => rw [e] at h; cases h
  | some t =>
    rw [e] at h
    simp only [List.mem_append] at h
    have key : ∀ x, Web.at w (i : Int) x → x = t := fun x ⟨j, hj, hx⟩ => by
      have : i = j := by omega
      subst this
      rw [e] at hx
      exact (Option.some.inj hx).symm
    rcases h with h | h
    · split at h
      · simp only [List.mem_cons, List.not_mem_nil, or_false] at h
        subst h
        refine ⟨⟨⟨t, i, rfl, e⟩, .inl rfl⟩, fun x hx => ?_⟩
        rw [key x hx]
        simp only [rev, if_true]
        assumption
      · cases h
    · split at h
      · simp only [List.mem_cons, List.not_mem_nil, or_false] at h
        subst h
        refine ⟨⟨⟨t, i, rfl, e⟩, .inr rfl⟩, fun x hx => ?_⟩
        rw [key x hx]
        simp only [rev]
        rw [if_neg (by decide)]
        assumption
      · cases h
abbrev C_law_out : Cn := fun rs g Q => ∃ w r, rs = [.d (eW w), .d (.int r)] ∧ w.ties.length ≤ 1000 ∧ Q (.d (.list ((outs w r).map eC2))) g
def w_law_out : WS :=
  (sSeq (sAsg (eLst aNil) (gN 2))
  (sSeq (sFor (iRg1 (aCons (eCB lenC (aCons (eIxN 0 (eC (.int 1))) aNil)) aNil)) (gN 3)
  (sAsg (eAddN 2 (eLc (iTpl (eTup (aCons (eC (.int 1)) (aCons (eUn negD (eC (.int 1))) aNil)))) (gN 4) (wB (eScR 1 (eqD false) (eIx (eCallP C_law_ends (aCons (eName 0) (aCons (eName 3) (aCons (eName 4) aNil)))) (eC (.int 0))))) (eTup (aCons (eName 3) (aCons (eName 4) aNil))) [4])) (gN 2)))
  (sRet (eName 2))))
theorem len_law_out (rs : List Rv) (g : Option Nat) (Q : Rv → Option Nat → Prop) (h : C_law_out rs g Q) : rs.length = 2 := by
  obtain ⟨w, t, rfl, _⟩ := h
  rfl
theorem spec_law_out (rs : List Rv) (g : Option Nat) (Q : Rv → Option Nat → Prop) (h : C_law_out rs g Q) : w_law_out (startC 5 rs g) (endP Q) fun _ _ => False := by
  obtain ⟨w, r, rfl, hl, hQ⟩ := h
  simp -dsimp only [rQ_, w_law_out, C_law_ends]
  simp -dsimp only [rQ_, eW]
  refine ⟨by simp [smI], by simp [smI]; omega, ?_⟩
  refine forW_ind _ (fun i c => ∃ x4 x5, (∀ r : Rv, x5 = some r → ¬ r.mu) ∧ c = ⟨[some (.d (.tuple [.int w.rooms, .tuple (w.ties.map eT)])), some (.d (.int r)), some (.own ((outsN w r i).map eC2)), x4, x5], g⟩) (fun i x c hx hI R hR => ?_) (fun c hI => ?_) _ ⟨_, _, by simp, rfl⟩
  · obtain ⟨x4, x5, h5, rfl⟩ := hI
    obtain ⟨hi, rfl⟩ := rng_at hx
    have hi' : i < w.ties.length := by simpa using hi
    have ht : w.ties[i]? = some w.ties[i] := by simp [hi']
    have hat : Web.at w (0 + (i : Int)) w.ties[i] := ⟨i, by omega, ht⟩
    have hat2 : Web.at w (i : Int) w.ties[i] := ⟨i, rfl, ht⟩
    have hln := outsN_len w r i
    have hs := outsN_succ w r i ht
    simp -dsimp only [rQ_, lcH, lcW, wipeE]
    refine ⟨by simp [nown], by simpa [nown] using h5, w, _, _, _, rfl, hat, ?_⟩
    simp -dsimp only [rQ_, eT, rev]
    by_cases hv : w.ties[i].v = r
    · simp -dsimp only [rQ_, hv, beq_self_eq_true]
      refine ⟨by decide, w, _, _, _, rfl, hat, ?_⟩
      simp -dsimp only [rQ_, eT, rev]
      by_cases hw : w.ties[i].w = r
      · simp -dsimp only [rQ_, hw, beq_self_eq_true]
        refine ⟨by decide, by simp; omega, hR _ ⟨some (.d (.int (0 + i))), x5, h5, ?_⟩⟩
        rw [hs, hv, hw]
        simp [eC2]
      · have hb : (w.ties[i].w == r) = false := by simpa using hw
        simp -dsimp only [rQ_, hb]
        refine ⟨by simp; omega, hR _ ⟨some (.d (.int (0 + i))), x5, h5, ?_⟩⟩
        rw [hs, if_pos hv, if_neg hw]
        simp [eC2]
    · have hb : (w.ties[i].v == r) = false := by simpa using hv
      simp -dsimp only [rQ_, hb]
      refine ⟨w, _, _, _, rfl, hat, ?_⟩
      simp -dsimp only [rQ_, eT, rev]
      by_cases hw : w.ties[i].w = r
      · simp -dsimp only [rQ_, hw, beq_self_eq_true]
        refine ⟨by decide, by simp; omega, hR _ ⟨some (.d (.int (0 + i))), x5, h5, ?_⟩⟩
        rw [hs, if_neg hv, if_pos hw]
        simp [eC2]
      · have hb : (w.ties[i].w == r) = false := by simpa using hw
        simp -dsimp only [rQ_, hb]
        refine ⟨by simp; omega, hR _ ⟨some (.d (.int (0 + i))), x5, h5, ?_⟩⟩
        rw [hs, if_neg hv, if_neg hw]
        simp [eC2]
  · obtain ⟨x4, x5, h5, rfl⟩ := hI
    try simp -dsimp only [rQ_]
    unfold outs at hQ
    simp [rngX_length] at hQ ⊢
    exact hQ
end K
set_option Elab.async false
set_option maxRecDepth 100000
set_option linter.all false
set_option autoImplicit false
set_option maxHeartbeats 4000000
namespace K
open PySem L2 Dl
variable [TabF]
/-! ### drawn webs -/
abbrev C_law_web : Cn := fun rs g Q => ∃ (rooms ties gr : Int) (n : Nat), rs = [.gen, .d (.int rooms), .d (.int ties), .d (.int gr)] ∧ g = some n ∧ 1 ≤ rooms ∧ rooms ≤ 100 ∧ 0 ≤ ties ∧ ties ≤ 100 ∧ 0 < gr ∧ gr ≤ 1000 ∧ n + 700 ≤ 2 ^ 40 ∧
  ∀ (w : Web) (m : Nat), WebOk w gr → w.rooms = rooms → (w.ties.length : Int) = ties → m ≤ n + 700 → Q (.d (eW w)) (some m)
def w_law_web : WS :=
  (sSeq (sAsg (eLst aNil) (gN 4))
  (sSeq (sFor (iRg1 (aCons (eName 2) aNil)) (gN 5)
  (sSeq (sAsg (eIf (wB (eScR 1 ltD (eAddN 5 (eC (.int 1))))) (eCallG C_law_draw (aCons (eName 0) (aCons (eAddN 5 (eC (.int 1))) aNil))) (eCallG C_law_draw (aCons (eName 0) (aCons (eName 1) aNil)))) (gN 6))
  (sSeq (sAsg (eIf (wB (eScR 1 ltD (eAddN 5 (eC (.int 1))))) (eAddN 5 (eC (.int 1))) (eCallG C_law_draw (aCons (eName 0) (aCons (eName 1) aNil)))) (gN 7))
  (sSeq (sAsg (eLc (iRg1 (aCons (eC (.int 2)) aNil)) (gN 10) wYes (eOp mulD (eOp addD (eC (.int 1)) (eCallG C_law_draw (aCons (eName 0) (aCons (eName 3) aNil)))) (eCallG C_law_of (aCons (eName 0) (aCons (eLst (aCons (eC (.int 1)) (aCons (eC (.int 1)) (aCons (eC (.int 1)) (aCons (eUn negD (eC (.int 1))) aNil))))) aNil)))) [10]) (gL 2 (gsCons (gN 8) (gsCons (gN 9) gsNil))))
  (sExp (eApp 4 (eIf (wB (eSc (eqD false) (eCallG C_law_draw (aCons (eName 0) (aCons (eC (.int 2)) aNil))) (eC (.int 0)))) (eTup (aCons (eName 6) (aCons (eName 7) (aCons (eName 8) (aCons (eName 9) aNil))))) (eTup (aCons (eName 7) (aCons (eName 6) (aCons (eName 9) (aCons (eName 8) aNil))))))))))))
  (sRet (eTup (aCons (eName 1) (aCons (eCB tupC (aCons (eName 4) aNil)) aNil))))))
theorem len_law_web (rs : List Rv) (g : Option Nat) (Q : Rv → Option Nat → Prop) (h : C_law_web rs g Q) : rs.length = 4 := by
  obtain ⟨a, b, c, n, rfl, _⟩ := h
  rfl
theorem two_rng : rngX 0 (Int.toNat 2) = [.int 0, .int 1] := rfl
theorem sgn_of {x : Px} (h : x ∈ [PyData.int 1, PyData.int 1, PyData.int 1, PyData.int (-1)]) : ∃ s : Int, x = .int s ∧ (s = 1 ∨ s = -1) := by
  simp only [List.mem_cons, List.not_mem_nil, or_false] at h
  rcases h with h | h | h | h
  · exact ⟨1, h, .inl rfl⟩
  · exact ⟨1, h, .inl rfl⟩
  · exact ⟨1, h, .inl rfl⟩
  · exact ⟨-1, h, .inr rfl⟩
theorem ends_ok {p gr s : Int} (h0 : 0 ≤ p) (h1 : p < gr) (hs : s = 1 ∨ s = -1) : (1 + p) * s ≠ 0 ∧ ((1 + p) * s).natAbs ≤ gr := by
  rcases hs with rfl | rfl <;> omega
theorem spec_law_web (rs : List Rv) (g : Option Nat) (Q : Rv → Option Nat → Prop) (h : C_law_web rs g Q) : w_law_web (startC 11 rs g) (endP Q) fun _ _ => False := by
  obtain ⟨rooms, ties, gr, n, rfl, rfl, h1, h2, h3, h4, h5, h6, hn, hQ⟩ := h
  simp -dsimp only [rQ_, w_law_web, C_law_draw, C_law_of]
  refine ⟨by decide, by unfold smI; omega, ?_⟩
  refine forW_ind _ (fun i c => ∃ (l : List Tie) (m : Nat) (x5 x6 x7 x8 x9 x10 : Option Rv), l.length = i ∧ m ≤ n + 7 * i ∧ (∀ t ∈ l, TieOk rooms gr t) ∧ (∀ r : Rv, x10 = some r → ¬ r.mu) ∧ c = ⟨[some .gen, some (.d (.int rooms)), some (.d (.int ties)), some (.d (.int gr)), some (.own (l.map eT)), x5, x6, x7, x8, x9, x10], some m⟩) (fun i x c hx hI R hR => ?_) (fun c hI => ?_) _ ⟨[], n, _, _, _, _, _, _, rfl, by omega, by simp, by simp, rfl⟩
  · obtain ⟨l, m, x5, x6, x7, x8, x9, x10, hl, hm, ht, h10, rfl⟩ := hI
    obtain ⟨hi, rfl⟩ := rng_at hx
    have hi2 : i < 100 := by omega
    try simp -dsimp only [rQ_]
    by_cases hb : 0 + (i : Int) + 1 < rooms
    · simp -dsimp only [rQ_, hb]
      refine ⟨_, _, rfl, rfl, by omega, by omega, pow9000 (by omega) (by omega), fun v m1 hva hvb hm1 => ?_⟩
      try simp -dsimp only [rQ_]
      simp -dsimp only [rQ_, hb]
      have hv : 0 ≤ v ∧ v < rooms := by omega
      have hw : 0 ≤ 0 + (i : Int) + 1 ∧ 0 + (i : Int) + 1 < rooms := by omega
      generalize 0 + (i : Int) + 1 = w at hw hb ⊢
      have hm2 : m1 ≤ n + 7 * i + 2 := by omega
      refine ⟨by unfold smI; omega, by simpa [nown] using h10, ?_⟩
      simp -dsimp only [rQ_, two_rng, lcH, lcW, wipeE]
      refine ⟨_, _, rfl, rfl, by omega, by omega, pow9000 (by omega) (by omega), fun p m2 hpa hpb hm2 => ?_⟩
      try simp -dsimp only [rQ_]
      try simp -dsimp only [rQ_]
      refine ⟨by simp, _, m2, rfl, rfl, by omega, by simp, by simp, fun sx hsx m3 hm3 => ?_⟩
      obtain ⟨s1, rfl, hs1⟩ := sgn_of hsx
      try simp -dsimp only [rQ_]
      refine ⟨CMul2.r (by omega) (by omega), ?_⟩
      refine ⟨_, _, rfl, rfl, by omega, by omega, pow9000 (by omega) (by omega), fun q m4 hqa hqb hm4 => ?_⟩
      try simp -dsimp only [rQ_]
      try simp -dsimp only [rQ_]
      refine ⟨by simp, _, m4, rfl, rfl, by omega, by simp, by simp, fun sy hsy m5 hm5 => ?_⟩
      obtain ⟨s2, rfl, hs2⟩ := sgn_of hsy
      try simp -dsimp only [rQ_]
      refine ⟨CMul2.r (by omega) (by omega), ?_⟩
      refine ⟨_, _, rfl, rfl, by omega, by omega, pow9000 (by omega) (by omega), fun z m6 hza hzb hm6 => ?_⟩
      try simp -dsimp only [rQ_]
      have ep := ends_ok hpa hpb hs1
      have eq := ends_ok hqa hqb hs2
      generalize (1 + p) * s1 = e1 at ep ⊢
      generalize (1 + q) * s2 = e2 at eq ⊢
      try simp -dsimp only [rQ_]
      by_cases hz : z = 0
      · simp -dsimp only [rQ_, hz, beq_self_eq_true]
        refine ⟨by decide, by simp; omega, hR _ ⟨l ++ [⟨v, w, e1, e2⟩], m6, some (.d (.int (0 + i))), some (.d (.int v)), some (.d (.int w)), some (.d (.int e1)), some (.d (.int e2)), x10, by simp [hl], by omega, fun t h => ?_, h10, ?_⟩⟩
        · rcases List.mem_append.mp h with h | h
          · exact ht t h
          · simp only [List.mem_cons, List.not_mem_nil, or_false] at h
            subst h
            exact ⟨hv.1, hv.2, hw.1, hw.2, ep.1, ep.2, eq.1, eq.2⟩
        · simp [eT]
      · have hb2 : (z == 0) = false := by simpa using hz
        simp -dsimp only [rQ_, hb2]
        refine ⟨by decide, by simp; omega, hR _ ⟨l ++ [⟨w, v, e2, e1⟩], m6, some (.d (.int (0 + i))), some (.d (.int v)), some (.d (.int w)), some (.d (.int e1)), some (.d (.int e2)), x10, by simp [hl], by omega, fun t h => ?_, h10, ?_⟩⟩
        · rcases List.mem_append.mp h with h | h
          · exact ht t h
          · simp only [List.mem_cons, List.not_mem_nil, or_false] at h
            subst h
            exact ⟨hw.1, hw.2, hv.1, hv.2, eq.1, eq.2, ep.1, ep.2⟩
        · simp [eT]
    · simp -dsimp only [rQ_, hb]
      refine ⟨_, _, rfl, rfl, by omega, by omega, pow9000 (by omega) (by omega), fun v m0 hva hvb hm0 => ?_⟩
      try simp -dsimp only [rQ_]
      simp -dsimp only [rQ_, hb]
      refine ⟨_, _, rfl, rfl, by omega, by omega, pow9000 (by omega) (by omega), fun w m1 hwa hwb hm1 => ?_⟩
      try simp -dsimp only [rQ_]
      try simp -dsimp only [rQ_]
      have hv : 0 ≤ v ∧ v < rooms := by omega
      have hw : 0 ≤ w ∧ w < rooms := by omega
      have hm2 : m1 ≤ n + 7 * i + 2 := by omega
      refine ⟨by unfold smI; omega, by simpa [nown] using h10, ?_⟩
      simp -dsimp only [rQ_, two_rng, lcH, lcW, wipeE]
      refine ⟨_, _, rfl, rfl, by omega, by omega, pow9000 (by omega) (by omega), fun p m2 hpa hpb hm2 => ?_⟩
      try simp -dsimp only [rQ_]
      try simp -dsimp only [rQ_]
      refine ⟨by simp, _, m2, rfl, rfl, by omega, by simp, by simp, fun sx hsx m3 hm3 => ?_⟩
      obtain ⟨s1, rfl, hs1⟩ := sgn_of hsx
      try simp -dsimp only [rQ_]
      refine ⟨CMul2.r (by omega) (by omega), ?_⟩
      refine ⟨_, _, rfl, rfl, by omega, by omega, pow9000 (by omega) (by omega), fun q m4 hqa hqb hm4 => ?_⟩
      try simp -dsimp only [rQ_]
      try simp -dsimp only [rQ_]
      refine ⟨by simp, _, m4, rfl, rfl, by omega, by simp, by simp, fun sy hsy m5 hm5 => ?_⟩
      obtain ⟨s2, rfl, hs2⟩ := sgn_of hsy
      try simp -dsimp only [rQ_]
      refine ⟨CMul2.r (by omega) (by omega), ?_⟩
      refine ⟨_, _, rfl, rfl, by omega, by omega, pow9000 (by omega) (by omega), fun z m6 hza hzb hm6 => ?_⟩
      try simp -dsimp only [rQ_]
      have ep := ends_ok hpa hpb hs1
      have eq := ends_ok hqa hqb hs2
      generalize (1 + p) * s1 = e1 at ep ⊢
      generalize (1 + q) * s2 = e2 at eq ⊢
      try simp -dsimp only [rQ_]
      by_cases hz : z = 0
      · simp -dsimp only [rQ_, hz, beq_self_eq_true]
        refine ⟨by decide, by simp; omega, hR _ ⟨l ++ [⟨v, w, e1, e2⟩], m6, some (.d (.int (0 + i))), some (.d (.int v)), some (.d (.int w)), some (.d (.int e1)), some (.d (.int e2)), x10, by simp [hl], by omega, fun t h => ?_, h10, ?_⟩⟩
        · rcases List.mem_append.mp h with h | h
          · exact ht t h
          · simp only [List.mem_cons, List.not_mem_nil, or_false] at h
            subst h
            exact ⟨hv.1, hv.2, hw.1, hw.2, ep.1, ep.2, eq.1, eq.2⟩
        · simp [eT]
      · have hb2 : (z == 0) = false := by simpa using hz
        simp -dsimp only [rQ_, hb2]
        refine ⟨by decide, by simp; omega, hR _ ⟨l ++ [⟨w, v, e2, e1⟩], m6, some (.d (.int (0 + i))), some (.d (.int v)), some (.d (.int w)), some (.d (.int e1)), some (.d (.int e2)), x10, by simp [hl], by omega, fun t h => ?_, h10, ?_⟩⟩
        · rcases List.mem_append.mp h with h | h
          · exact ht t h
          · simp only [List.mem_cons, List.not_mem_nil, or_false] at h
            subst h
            exact ⟨hw.1, hw.2, hv.1, hv.2, eq.1, eq.2, ep.1, ep.2⟩
        · simp [eT]
  · obtain ⟨l, m, x5, x6, x7, x8, x9, x10, hl, hm, ht, h10, rfl⟩ := hI
    try simp -dsimp only [rQ_]
    rw [rngX_length] at hl hm
    exact ⟨by decide, hQ ⟨rooms, l⟩ m ⟨h1, ht⟩ rfl (by show (l.length : Int) = ties; omega) (by omega)⟩
end K
set_option Elab.async false
set_option maxRecDepth 100000
set_option linter.all false
set_option autoImplicit false
set_option maxHeartbeats 4000000
namespace K
open PySem L2 Dl
variable [TabF]
/-! ### ties of steps, and walks that lead on -/
def Web.tie (w : Web) (t : Int) : Tie := (w.ties[t.toNat]?).getD ⟨0, 0, 1, 1⟩
theorem Web.at.tie {w : Web} {t : Int} {x : Tie} (h : Web.at w t x) : w.tie t = x := by
  obtain ⟨i, rfl, e⟩ := h
  unfold Web.tie
  rw [Int.toNat_natCast, e]
  rfl
def Web.e (w : Web) (s : Stp) : Tie := rev (w.tie s.tie) s.side
theorem StepsOk.e {w : Web} {l : List Stp} (h : StepsOk w l) (wo : WebOk w 1000) {s : Stp} (hs : s ∈ l) : ∃ x, Web.at w s.tie x ∧ w.e s = rev x s.side ∧ TieOk w.rooms 1000 (w.e s) := by
  obtain ⟨x, hx⟩ := (h s hs).1
  refine ⟨x, hx, by unfold Web.e; rw [hx.tie], ?_⟩
  unfold Web.e
  rw [hx.tie]
  exact (wo.at hx).rev _
def cr (s : Stp) : Int × Int := (s.tie, s.side)
/-- the crossings lead on from r to h -/
inductive Ch (w : Web) (r : Int) : List (Int × Int) → Int → Prop
  | nil : Ch w r [] r
  | snoc {l : List (Int × Int)} {h : Int} (c : Int × Int) : Ch w r l h → (w.e ⟨c.1, c.2, 0⟩).v = h → Ch w r (l ++ [c]) (w.e ⟨c.1, c.2, 0⟩).w
theorem Ch.put {w : Web} {r h : Int} {l : List Stp} (H : Ch w r (l.map cr) h) {t s : Int} {y : Tie} (k : Int) (a : Web.at w t y) (e : (rev y s).v = h) : Ch w r ((l ++ [Stp.mk t s k]).map cr) (rev y s).w := by
  have q : w.e ⟨t, s, 0⟩ = rev y s := by unfold Web.e; rw [a.tie]
  rw [List.map_append, ← q]
  exact .snoc (t, s) H (by rw [q]; exact e)
abbrev Cends_of : Cn := fun rs g Q => ∃ w t s x, rs = [.d (eW w), .d (.int t), .d (.int s)] ∧ Web.at w t x ∧ Q (.d (eT (rev x s))) g
def wends_of : WS :=
  (sSeq (sAsg (eIx (eIxN 0 (eC (.int 1))) (eName 1)) (gT 4 (gsCons (gN 3) (gsCons (gN 4) (gsCons (gN 5) (gsCons (gN 6) gsNil))))))
  (sSeq (sIf (wB (eScL 2 (eqD false) (eC (.int 1)))) (sRet (eTup (aCons (eName 3) (aCons (eName 4) (aCons (eName 5) (aCons (eName 6) aNil)))))) sNil)
  (sRet (eTup (aCons (eName 4) (aCons (eName 3) (aCons (eName 6) (aCons (eName 5) aNil))))))))
theorem lenends_of (rs : List Rv) (g : Option Nat) (Q : Rv → Option Nat → Prop) (h : Cends_of rs g Q) : rs.length = 3 := by
  obtain ⟨w, t, s, x, rfl, _⟩ := h
  rfl
theorem specends_of (rs : List Rv) (g : Option Nat) (Q : Rv → Option Nat → Prop) (h : Cends_of rs g Q) : wends_of (startC 7 rs g) (endP Q) fun _ _ => False := by
  obtain ⟨w, t, s, x, rfl, ⟨i, rfl, hx⟩, hQ⟩ := h
  simp -dsimp only [rQ_, wends_of, eW]
  rw [ixtn (map_of eT hx)]
  simp -dsimp only [rQ_, eT]
  unfold rev at hQ
  by_cases hs : s = 1
  · rw [if_pos hs] at hQ
    simp -dsimp only [rQ_, hs, beq_self_eq_true]
    exact ⟨by decide, hQ⟩
  · rw [if_neg hs] at hQ
    have hb : (s == 1) = false := by simpa using hs
    simp -dsimp only [rQ_, hb]
    exact ⟨by decide, hQ⟩
end K
set_option Elab.async false
set_option maxRecDepth 100000
set_option linter.all false
set_option autoImplicit false
set_option maxHeartbeats 4000000
namespace K
open PySem L2 Dl
variable [TabF]
/-! ### drawn walks -/
structure KB (B : Int) (w : Wlk) : Prop where
  k : w.k.natAbs ≤ B
  s : ∀ s ∈ w.steps, s.k.natAbs ≤ B
theorem CrOk.tie {w : Web} {t s : Int} (h : CrOk w t s) : ∃ x, Web.at w t x := h.1
abbrev C_law_walk : Cn := fun rs g Q => ∃ (w : Web) (room steps gr : Int) (n : Nat), rs = [.gen, .d (eW w), .d (.int room), .d (.int steps), .d (.int gr)] ∧ g = some n ∧ w.ties.length ≤ 1000 ∧ 0 ≤ steps ∧ steps ≤ 100 ∧ 0 < gr ∧ Big gr ∧ n + 500 ≤ 2 ^ 40 ∧
  ∀ (k : Wlk) (m : Nat) (h : Int), StepsOk w k.steps → Ch w room (k.steps.map cr) h → (k.steps.length : Int) ≤ steps → k.room = room → KB (gr + 4) k → m ≤ n + 500 → Q (.d (eK k)) (some m)
def w_law_walk : WS :=
  (sSeq (sPar3 5 6 7 (eCallG C_law_turns (aCons (eName 0) (aCons (eName 4) aNil))) (eLst aNil) (eName 2))
  (sSeq (sFor (iRg1 (aCons (eName 3) aNil)) (gN 8)
  (sSeq (sAsg (eCallP C_law_out (aCons (eName 1) (aCons (eName 7) aNil))) (gN 9))
  (sIf (wB (eScL 9 (eqD true) (eLst aNil))) (sSeq (sAsg (eCallG C_law_of (aCons (eName 0) (aCons (eName 9) aNil))) (gT 2 (gsCons (gN 10) (gsCons (gN 11) gsNil))))
  (sSeq (sAsg (eIx (eCallP C_law_ends (aCons (eName 1) (aCons (eName 10) (aCons (eName 11) aNil)))) (eC (.int 1))) (gN 7))
  (sExp (eApp 6 (eTup (aCons (eName 10) (aCons (eName 11) (aCons (eCallG C_law_turns (aCons (eName 0) (aCons (eName 4) aNil))) aNil)))))))) sNil)))
  (sRet (eTup (aCons (eName 2) (aCons (eName 5) (aCons (eCB tupC (aCons (eName 6) aNil)) aNil)))))))
theorem len_law_walk (rs : List Rv) (g : Option Nat) (Q : Rv → Option Nat → Prop) (h : C_law_walk rs g Q) : rs.length = 5 := by
  obtain ⟨a, b, c, d, n, rfl, _⟩ := h
  rfl
theorem spec_law_walk (rs : List Rv) (g : Option Nat) (Q : Rv → Option Nat → Prop) (h : C_law_walk rs g Q) : w_law_walk (startC 12 rs g) (endP Q) fun _ _ => False := by
  obtain ⟨w, room, steps, gr, n, rfl, rfl, hw, h0, h1, hg, hg2, hn, hQ⟩ := h
  simp -dsimp only [rQ_, w_law_walk, C_law_draw, C_law_of, C_law_turns, C_law_out, C_law_ends]
  refine ⟨gr, n, rfl, rfl, by omega, hg, hg2, fun k0 m0 hk hm0 => ?_⟩
  try simp -dsimp only [rQ_]
  refine ⟨by decide, by unfold smI; omega, ?_⟩
  refine forW_ind _ (fun i c => ∃ (l : List Stp) (m : Nat) (here : Int) (x8 x9 x10 x11 : Option Rv), Ch w room (l.map cr) here ∧ l.length ≤ i ∧ m ≤ n + 3 + 4 * i ∧ StepsOk w l ∧ (∀ s ∈ l, s.k.natAbs ≤ gr + 4) ∧ c = ⟨[some .gen, some (.d (eW w)), some (.d (.int room)), some (.d (.int steps)), some (.d (.int gr)), some (.d (.int k0)), some (.own (l.map eS)), some (.d (.int here)), x8, x9, x10, x11], some m⟩) (fun i x c hx hI R hR => ?_) (fun c hI => ?_) _ ⟨[], m0, room, _, _, _, _, .nil, by simp, by omega, by simp [StepsOk], by simp, rfl⟩
  · obtain ⟨l, m, here, x8, x9, x10, x11, hch, hl, hm, ho, hb, rfl⟩ := hI
    obtain ⟨hi, rfl⟩ := rng_at hx
    have hi2 : i < 100 := by omega
    try simp -dsimp only [rQ_]
    refine ⟨w, _, rfl, hw, ?_⟩
    try simp -dsimp only [rQ_]
    rw [eqt_nil fun x hx => by
      obtain ⟨c, _, rfl⟩ := List.mem_map.mp hx
      exact .tup fun y hy => by
        simp only [List.mem_cons, List.not_mem_nil, or_false] at hy
        rcases hy with rfl | rfl <;> exact .int _]
    try simp -dsimp only [rQ_]
    refine ⟨by decide, ?_⟩
    by_cases he : outs w here = []
    · simp -dsimp only [rQ_, he, List.isEmpty_nil, Bool.not_true]
      exact hR _ ⟨l, m, here, some (.d (.int (0 + i))), some (.d (.list [])), x10, x11, hch, by omega, by omega, ho, hb, rfl⟩
    · have hne : ((outs w here).map eC2).isEmpty = false := by simp [he]
      simp -dsimp only [rQ_, hne, Bool.not_false]
      refine ⟨_, m, rfl, rfl, by omega, by simpa using he, by have := outs_len w here; simp; omega, fun x hx m1 hm1 => ?_⟩
      obtain ⟨⟨t, s⟩, hc, rfl⟩ := List.mem_map.mp hx
      obtain ⟨⟨⟨y, hy⟩, hs⟩, hr⟩ := outs_ok hc
      simp -dsimp only [rQ_, eC2]
      refine ⟨w, t, s, y, rfl, hy, ?_⟩
      simp -dsimp only [rQ_, eT]
      refine ⟨gr, m1, rfl, rfl, by omega, hg, hg2, fun k m2 hk hm2 => ?_⟩
      try simp -dsimp only [rQ_]
      refine ⟨by decide, by simp; omega, hR _ ⟨l ++ [⟨t, s, k⟩], m2, (rev y s).w, some (.d (.int (0 + i))), some (.d (.list ((outs w here).map eC2))), some (.d (.int t)), some (.d (.int s)), hch.put k hy (hr y hy), by simp; omega, by omega, fun z h => ?_, fun z h => ?_, ?_⟩⟩
      · rcases List.mem_append.mp h with h | h
        · exact ho z h
        · simp only [List.mem_cons, List.not_mem_nil, or_false] at h
          subst h
          exact ⟨⟨y, hy⟩, hs⟩
      · rcases List.mem_append.mp h with h | h
        · exact hb z h
        · simp only [List.mem_cons, List.not_mem_nil, or_false] at h
          subst h
          show (k.natAbs : Int) ≤ gr + 4
          omega
      · simp [eS]
  · obtain ⟨l, m, here, x8, x9, x10, x11, hch, hl, hm, ho, hb, rfl⟩ := hI
    try simp -dsimp only [rQ_]
    rw [rngX_length] at hl hm
    exact ⟨by decide, hQ ⟨room, k0, l⟩ m here ho hch (by show (l.length : Int) ≤ steps; omega) rfl ⟨by show (k0.natAbs : Int) ≤ gr + 4; omega, hb⟩ (by omega)⟩
end K
set_option Elab.async false
set_option maxRecDepth 100000
set_option linter.all false
set_option autoImplicit false
set_option maxHeartbeats 4000000
namespace K
open PySem L2 Dl
variable [TabF]
theorem cut_len {α : Type} (xs : List α) (lo hi : Option Int) : (cutX xs lo hi).length ≤ xs.length := by
  unfold cutX
  rw [List.length_take, List.length_drop]
  omega
theorem filt (ns : List Int) : ns.filterMap (fun i => if 1000000000000000000 ≤ i then some (PyData.int i) else none) = (ns.filter fun i => decide (1000000000000000000 ≤ i)).map PyData.int := by
  induction ns with
  | nil => rfl
  | cons a l ih =>
    by_cases h : 1000000000000000000 ≤ a
    · rw [List.filterMap_cons_some (by simp [h]; rfl), List.filter_cons_of_pos (by simp [h]), List.map_cons, ih]
    · rw [List.filterMap_cons_none (by simp [h]), List.filter_cons_of_neg (by simp [h]), ih]
abbrev C_law_begun : Cn := fun rs g Q => ∃ (ns : List Int) (k : Int), rs = [.scr ns, .d (.int k)] ∧ g = none ∧ 0 ≤ k ∧ k ≤ 100 ∧ ns.length ≤ 100 ∧ Q .gen (some 0)
def w_law_begun : WS :=
  (sSeq (sAsg (eOp addD (eSlS 0 (oSome (eName 1)) oNone) (eSlS 0 oNone (oSome (eName 1)))) (gN 2))
  (sSeq (sAsg (eLc (iScr 0) (gN 3) (wB (eScL 3 geD (eOp powD (eC (.int 10)) (eC (.int 18))))) (eName 3) [3]) (gN 4))
  (sSeq (sAsg (eOp addD (eC (.int 59)) (eOp mulD (eC (.int 6)) (eName 1))) (gN 5))
  (sSeq (sFor (iLst (eName 2)) (gN 3)
  (sAsg (eOp modD (eCB intC (aCons (eOp addD (eOp mulD (eName 5) (eC (.int 48271))) (eName 3)) aNil)) (eC (.int 2147483647))) (gN 5)))
  (sRetG (eIf (wB (eScL 1 ltD (eLenN 4))) (eIxN 4 (eName 1)) (eC (.int 0))) (eName 5) (eAddN 2 (eLst (aCons (eOp addD (eOp mulD (eC (.int 43)) (eName 1)) (eC (.int 17))) aNil))) (eC (.int 0)))))))
theorem len_law_begun (rs : List Rv) (g : Option Nat) (Q : Rv → Option Nat → Prop) (h : C_law_begun rs g Q) : rs.length = 2 := by
  obtain ⟨a, b, rfl, _⟩ := h
  rfl
theorem spec_law_begun (rs : List Rv) (g : Option Nat) (Q : Rv → Option Nat → Prop) (h : C_law_begun rs g Q) : w_law_begun (startC 6 rs g) (endP Q) fun _ _ => False := by
  obtain ⟨ns, k, rfl, rfl, h0, h1, hl, hQ⟩ := h
  simp only [w_law_begun, pow18]
  try simp -dsimp only [rQ_]
  have hc1 := cut_len ns (some k) none
  have hc2 := cut_len ns none (some k)
  rw [← List.map_append]
  have hcl : (cutX ns (some k) none ++ cutX ns none (some k)).length ≤ 200 := by simp; omega
  refine ⟨by simp; omega, by simp [nown], ?_⟩
  generalize cutX ns (some k) none ++ cutX ns none (some k) = cs at hcl ⊢
  refine lcW_fma PyData.int (fun i => if 1000000000000000000 ≤ i then some (.int i) else none) ns [] (fun i hi R S hR hS => ?_) (by simp; omega) ?_
  · simp -dsimp only [rQ_, Turn1, wipeE]
    by_cases hg : 1000000000000000000 ≤ i
    · simp -dsimp only [rQ_, hg]
      exact hR _ (by simp [hg])
    · simp -dsimp only [rQ_, hg]
      exact hS (by simp [hg])
  rw [List.nil_append, show ns.filterMap (fun i => if 1000000000000000000 ≤ i then some (PyData.int i) else none) = (ns.filter fun i => decide (1000000000000000000 ≤ i)).map PyData.int from filt ns]
  have hgr : ∀ i ∈ ns.filter fun i => decide (1000000000000000000 ≤ i), (0 : Int) ≤ i := fun i hi => by
    have := (List.mem_filter.mp hi).2
    simp at this
    omega
  have hgl : (ns.filter fun i => decide (1000000000000000000 ≤ i)).length ≤ 100 := Nat.le_trans (List.length_filter_le _ _) hl
  generalize (ns.filter fun i => decide (1000000000000000000 ≤ i)) = gr at hgr hgl ⊢
  try simp -dsimp only [rQ_]
  refine ⟨CMul2.l (by decide) (by decide), ?_⟩
  refine forW_ind _ (fun i c => ∃ (b : Int) (x3 : Option Rv), 0 ≤ b ∧ b < 2147483647 ∧ c = ⟨[some (.scr ns), some (.d (.int k)), some (.d (.list (cs.map .int))), x3, some (.own (gr.map .int)), some (.d (.int b))], none⟩) (fun i x c hx hI R hR => ?_) (fun c hI => ?_) _ ⟨59 + 6 * k, _, by omega, by omega, rfl⟩
  · obtain ⟨b, x3, hb0, hb1, rfl⟩ := hI
    obtain ⟨a, ha, rfl⟩ := map_at hx
    try simp -dsimp only [rQ_]
    have hf := fmod_b (i := b * 48271 + a) (b := 2147483647) (by omega)
    exact ⟨CMul2.r (by omega) (by omega), by decide, hR _ ⟨_, _, hf.1, hf.2, rfl⟩⟩
  · obtain ⟨b, x3, hb0, hb1, rfl⟩ := hI
    try simp -dsimp only [rQ_]
    have fin : 0 ≤ b ∧ b < 2147483647 ∧ CMul2 43 k ∧ 1 ≤ 1000000 ∧ (cs.map PyData.int).length + 1 ≤ 1000000 ∧ ∃ ns : List Int, cs.map PyData.int ++ [PyData.int (43 * k + 17)] = ns.map PyData.int ∧ ¬ns = [] ∧ ns.length ≤ 1000 ∧ Q Rv.gen (some 0) :=
      ⟨hb0, hb1, CMul2.l (by decide) (by decide), by decide, by simp; omega, cs ++ [43 * k + 17], by simp, by simp, by simp; omega, hQ⟩
    by_cases hk : k < ((gr.map PyData.int).length : Int)
    · rw [if_pos hk]
      refine ixl_of h0 hk fun x hx => ?_
      obtain ⟨a, ha, rfl⟩ := List.mem_map.mp hx
      exact ⟨hgr a ha, fin⟩
    · rw [if_neg hk]
      exact ⟨by decide, fin⟩
end K
set_option Elab.async false
set_option maxRecDepth 100000
set_option linter.all false
set_option autoImplicit false
set_option maxHeartbeats 4000000
namespace K
open PySem L2 Dl
variable [TabF]
/-! ### plain walks, as a function -/
/-- a kept row: what is left ahead of a crossing, and the crossing -/
structure Kp where
  r : Int
  t : Int
  s : Int
def nums (k : Wlk) : List Int := k.k :: k.steps.map Stp.k
theorem nums_len (k : Wlk) : (nums k).length = k.steps.length + 1 := by simp [nums]
def Kp.c (x : Kp) : Int × Int := (x.t, x.s)
def fits (K : List Kp) (r : Int) (s : Stp) : Bool := match K.getLast? with
  | some x => decide (r = 0) && (decide (x.t = s.tie) && decide (x.s = -s.side))
  | none => false
def lastR (K : List Kp) : Int := match K.getLast? with
  | some x => x.r
  | none => 0
def restOf (w : Web) (n : Int) (s : Stp) : Int := n.fmod ((w.e s).p.natAbs : Int)
def manyOf (w : Web) (n : Int) (s : Stp) : Int := (n - restOf w n s).fdiv (w.e s).p
def nextN (w : Web) (n : Int) (s : Stp) : Int := (w.e s).q * manyOf w n s + s.k
/-- going over one step -/
def go1 (w : Web) (a : List Kp × Int) (s : Stp) : List Kp × Int :=
  if fits a.1 (restOf w a.2 s) s = true then (a.1.dropLast, nextN w a.2 s + lastR a.1) else (a.1 ++ [⟨restOf w a.2 s, s.tie, s.side⟩], nextN w a.2 s)
def goW (w : Web) (k : Wlk) : List Kp × Int := k.steps.foldl (go1 w) ([], k.k)
/-- the walk with these numbers and crossings -/
def mkW (room : Int) (ns : List Int) (cs : List (Int × Int)) : Wlk := ⟨room, ns.headD 0, (cs.zip ns.tail).map fun p => ⟨p.1.1, p.1.2, p.2⟩⟩
def endW (room : Int) (a : List Kp × Int) : Wlk := mkW room (a.1.map Kp.r ++ [a.2]) (a.1.map Kp.c)
def plainW (w : Web) (k : Wlk) : Wlk := endW k.room (goW w k)
theorem mkW_nums {room : Int} {ns : List Int} {cs : List (Int × Int)} (h : ns.length = cs.length + 1) : nums (mkW room ns cs) = ns := by
  cases ns with
  | nil => simp at h
  | cons a l =>
    have hl : l.length = cs.length := by simpa using h
    simp only [mkW, nums, List.headD_cons, List.tail_cons, List.map_map]
    congr 1
    rw [show (Stp.k ∘ fun p : (Int × Int) × Int => (⟨p.1.1, p.1.2, p.2⟩ : Stp)) = Prod.snd from rfl]
    rw [List.map_snd_zip (by omega)]
theorem mkW_cr {room : Int} {ns : List Int} {cs : List (Int × Int)} (h : ns.length = cs.length + 1) : (mkW room ns cs).steps.map cr = cs := by
  simp only [mkW, List.map_map]
  rw [show (cr ∘ fun p : (Int × Int) × Int => (⟨p.1.1, p.1.2, p.2⟩ : Stp)) = Prod.fst from rfl]
  rw [List.map_fst_zip (by rw [List.length_tail]; omega)]
theorem mkW_len {room : Int} {ns : List Int} {cs : List (Int × Int)} (h : ns.length = cs.length + 1) : (mkW room ns cs).steps.length = cs.length := by
  rw [← List.length_map (f := cr), mkW_cr h]
theorem wlk_ext {a b : Wlk} (h1 : a.room = b.room) (h2 : nums a = nums b) (h3 : a.steps.map cr = b.steps.map cr) : a = b := by
  obtain ⟨r, k, l⟩ := a
  obtain ⟨r', k', m⟩ := b
  simp only [nums, List.cons.injEq] at h1 h2 h3
  obtain ⟨rfl, h4⟩ := h2
  subst h1
  congr 1
  induction l generalizing m with
  | nil => cases m with
    | nil => rfl
    | cons b m => simp at h3
  | cons a l ih => cases m with
    | nil => simp at h3
    | cons b m =>
      simp only [List.map_cons, List.cons.injEq] at h3 h4
      rw [ih m h3.2 h4.2]
      obtain ⟨t, s, k⟩ := a
      obtain ⟨t', s', k'⟩ := b
      have e1 := h3.1
      have e2 := h4.1
      simp only [cr, Prod.mk.injEq] at e1 e2
      rw [e1.1, e1.2, e2]
theorem mkW_self (k : Wlk) : mkW k.room (nums k) (k.steps.map cr) = k :=
  wlk_ext rfl (mkW_nums (by simp [nums])) (mkW_cr (by simp [nums]))
theorem endW_len (room : Int) (a : List Kp × Int) : (endW room a).steps.length = a.1.length := by
  unfold endW
  rw [mkW_len (by simp), List.length_map]
theorem go1_len (w : Web) (a : List Kp × Int) (s : Stp) : (go1 w a s).1.length ≤ a.1.length + 1 := by
  unfold go1
  split
  · simp; omega
  · simp
theorem goW_len (w : Web) (k : Wlk) : (goW w k).1.length ≤ k.steps.length := by
  have key : ∀ (l : List Stp) (a : List Kp × Int), (l.foldl (go1 w) a).1.length ≤ a.1.length + l.length := by
    intro l
    induction l with
    | nil => intro a; exact Nat.le_refl _
    | cons s l ih =>
      intro a
      have h1 := ih (go1 w a s)
      have h2 := go1_len w a s
      simp only [List.foldl_cons, List.length_cons]
      omega
  have := key k.steps ([], k.k)
  simpa [goW] using this
/-- the kept rows: rests in range, no row strikes the one ahead of it -/
inductive Red (w : Web) : List Kp → Prop
  | nil : Red w []
  | snoc {K : List Kp} (x : Kp) : Red w K → 0 ≤ x.r → x.r < ((w.e ⟨x.t, x.s, 0⟩).p.natAbs : Int) → fits K x.r ⟨x.t, x.s, 0⟩ = false → Red w (K ++ [x])
theorem fits_k {K : List Kp} {r t s k k' : Int} : fits K r ⟨t, s, k⟩ = fits K r ⟨t, s, k'⟩ := rfl
theorem e_k {w : Web} {t s k k' : Int} : w.e ⟨t, s, k⟩ = w.e ⟨t, s, k'⟩ := rfl
theorem Red.drop {w : Web} {K : List Kp} (h : Red w K) : Red w K.dropLast := by
  cases h with
  | nil => exact .nil
  | snoc x h _ _ _ => rw [List.dropLast_concat]; exact h
theorem Red.go {w : Web} {a : List Kp × Int} {s : Stp} (h : Red w a.1) (hp : (w.e s).p ≠ 0) : Red w (go1 w a s).1 := by
  unfold go1
  split
  · exact h.drop
  · rename_i hf
    have hb := fmod_b (i := a.2) (b := ((w.e s).p.natAbs : Int)) (by omega)
    exact .snoc ⟨restOf w a.2 s, s.tie, s.side⟩ h hb.1 hb.2 (by rw [Bool.not_eq_true] at hf; exact hf)
theorem Red.goW {w : Web} {k : Wlk} (h : ∀ s ∈ k.steps, (w.e s).p ≠ 0) : Red w (goW w k).1 := by
  have key : ∀ (l : List Stp) (a : List Kp × Int), (∀ s ∈ l, (w.e s).p ≠ 0) → Red w a.1 → Red w (l.foldl (go1 w) a).1 := by
    intro l
    induction l with
    | nil => intro a _ h; exact h
    | cons s l ih => exact fun a hl h => ih _ (fun z hz => hl z (List.mem_cons_of_mem _ hz)) (h.go (hl s List.mem_cons_self))
  exact key k.steps ([], k.k) h .nil
theorem rest_small {w : Web} {n : Int} {s : Stp} (h0 : 0 ≤ n) (h1 : n < ((w.e s).p.natAbs : Int)) : restOf w n s = n ∧ manyOf w n s = 0 := by
  have e : restOf w n s = n := by
    unfold restOf
    rw [Int.fmod_eq_emod_of_nonneg _ (by omega)]
    exact Int.emod_eq_of_lt h0 h1
  refine ⟨e, ?_⟩
  unfold manyOf
  rw [e, Int.sub_self, Int.zero_fdiv]
theorem endW_snoc (room : Int) (K : List Kp) (x : Kp) (n : Int) : (endW room (K ++ [x], n)).k = (endW room (K, x.r)).k ∧ (endW room (K ++ [x], n)).steps = (endW room (K, x.r)).steps ++ [⟨x.t, x.s, n⟩] := by
  unfold endW mkW
  simp only [List.map_append, List.map_cons, List.map_nil]
  cases K with
  | nil => exact ⟨rfl, rfl⟩
  | cons a K =>
    refine ⟨rfl, ?_⟩
    simp only [List.map_cons, List.cons_append, List.tail_cons]
    rw [show a.c :: (K.map Kp.c ++ [x.c]) = (a.c :: K.map Kp.c) ++ [x.c] from rfl, List.zip_append (by simp)]
    simp [Kp.c]
/-- going along a plain walk keeps all rows -/
theorem goW_end {w : Web} {K : List Kp} (h : Red w K) (room n : Int) : goW w (endW room (K, n)) = (K, n) := by
  induction h generalizing n with
  | nil => rfl
  | snoc x h h0 h1 hf ih =>
    obtain ⟨e1, e2⟩ := endW_snoc room _ x n
    have q := ih x.r
    unfold goW at q ⊢
    rw [e1, e2, List.foldl_append, q]
    obtain ⟨r1, r2⟩ := rest_small (w := w) (n := x.r) (s := ⟨x.t, x.s, n⟩) h0 h1
    simp only [List.foldl_cons, List.foldl_nil, go1, nextN, r1, r2]
    rw [fits_k (k' := 0), hf]
    simp
theorem plainW_plain {w : Web} {k : Wlk} (h : ∀ s ∈ k.steps, (w.e s).p ≠ 0) : plainW w (plainW w k) = plainW w k := by
  show endW k.room (goW w (endW k.room (goW w k))) = _
  rw [show goW w k = ((goW w k).1, (goW w k).2) from rfl, goW_end (Red.goW h)]
  rfl
end K
set_option Elab.async false
set_option maxRecDepth 100000
set_option linter.all false
set_option autoImplicit false
set_option maxHeartbeats 4000000
namespace K
open PySem L2 Dl
variable [TabF]
/-! ### the program's plain walks -/
abbrev Ccrossings_of : Cn := fun rs g Q => ∃ k : Wlk, rs = [.d (eK k)] ∧ k.steps.length ≤ 1000 ∧ Q (.own ((k.steps.map cr).map eC2)) g
def wcrossings_of : WS :=
  (sRet (eLc (iTpl (eIxN 0 (eC (.int 2)))) (gT 3 (gsCons (gN 1) (gsCons (gN 2) (gsCons (gN 3) gsNil)))) wYes (eTup (aCons (eName 1) (aCons (eName 2) aNil))) [1, 2, 3]))
theorem lencrossings_of (rs : List Rv) (g : Option Nat) (Q : Rv → Option Nat → Prop) (h : Ccrossings_of rs g Q) : rs.length = 1 := by
  obtain ⟨k, rfl, _⟩ := h
  rfl
theorem speccrossings_of (rs : List Rv) (g : Option Nat) (Q : Rv → Option Nat → Prop) (h : Ccrossings_of rs g Q) : wcrossings_of (startC 4 rs g) (endP Q) fun _ _ => False := by
  obtain ⟨k, rfl, hl, hQ⟩ := h
  simp -dsimp only [rQ_, wcrossings_of, eK]
  refine ⟨by simp [nown], ?_⟩
  refine lcW_mpa eS (fun s => eC2 (cr s)) _ (fun s hs R S hR => ?_) (by omega) ?_
  · simp -dsimp only [rQ_, Turn1, wipeE, eS]
    exact ⟨by decide, hR⟩
  try simp -dsimp only [rQ_]
  rw [List.map_map] at hQ
  exact hQ
theorem zip_map {α β : Type} (f : α → Px) (h : β → Px) : ∀ (xs : List α) (ys : List β), zipX (xs.map f) (ys.map h) = (xs.zip ys).map fun p => PyData.tuple [f p.1, h p.2]
  | [], ys => by cases ys <;> simp [zipX]
  | x :: xs, [] => by simp [zipX]
  | x :: xs, y :: ys => by simp [zipX, zip_map f h xs ys]
abbrev Cwalk_with : Cn := fun rs g Q => ∃ (r : Int) (ns : List Int) (cs : List (Int × Int)), rs = [.d (.int r), .d (.list (ns.map .int)), .d (.list (cs.map eC2))] ∧ ns ≠ [] ∧ ns.length ≤ 2000 ∧ Q (.d (eK (mkW r ns cs))) g
def wwalk_with : WS :=
  (sSeq (sAsg (eLc (iZp (aCons (eName 2) (aCons (eSlN 1 (oSome (eC (.int 1))) oNone) aNil))) (gT 2 (gsCons (gT 2 (gsCons (gN 5) (gsCons (gN 6) gsNil))) (gsCons (gN 4) gsNil))) wYes (eTup (aCons (eName 5) (aCons (eName 6) (aCons (eName 4) aNil)))) [4, 5, 6]) (gN 3))
  (sRet (eTup (aCons (eName 0) (aCons (eIxN 1 (eC (.int 0))) (aCons (eCB tupC (aCons (eName 3) aNil)) aNil))))))
theorem lenwalk_with (rs : List Rv) (g : Option Nat) (Q : Rv → Option Nat → Prop) (h : Cwalk_with rs g Q) : rs.length = 3 := by
  obtain ⟨k, _, _, rfl, _⟩ := h
  rfl
theorem specwalk_with (rs : List Rv) (g : Option Nat) (Q : Rv → Option Nat → Prop) (h : Cwalk_with rs g Q) : wwalk_with (startC 7 rs g) (endP Q) fun _ _ => False := by
  obtain ⟨r, ns, cs, rfl, hn, hl, hQ⟩ := h
  obtain ⟨a, l, rfl⟩ : ∃ a l, ns = a :: l := by
    cases ns with
    | nil => exact absurd rfl hn
    | cons a l => exact ⟨a, l, rfl⟩
  simp -dsimp only [rQ_, wwalk_with]
  rw [slD_l]
  try simp -dsimp only [rQ_]
  rw [show cutX (PyData.int a :: l.map .int) (some 1) none = l.map .int from cut_tl (i := 1) _ (by simp)]
  rw [zip_map]
  refine ⟨by simp [nown], ?_⟩
  refine lcW_mpa (fun p : (Int × Int) × Int => PyData.tuple [eC2 p.1, .int p.2]) (fun p => eS ⟨p.1.1, p.1.2, p.2⟩) _ (fun s hs R S hR => ?_) (by simp at hl ⊢; omega) ?_
  · simp -dsimp only [rQ_, Turn1, wipeE, eC2]
    exact ⟨by decide, hR⟩
  try simp -dsimp only [rQ_]
  refine ⟨by decide, ?_⟩
  simp only [eK, mkW, List.map_map] at hQ
  exact hQ
end K
set_option Elab.async false
set_option maxRecDepth 100000
set_option linter.all false
set_option autoImplicit false
set_option maxHeartbeats 4000000
namespace K
open PySem L2 Dl
variable [TabF]
theorem eqv_2 {a b c d : Int} : PyData.eqv (.tuple [.int a, .int b]) (.tuple [.int c, .int d]) = (decide (a = c) && decide (b = d)) := by
  simp only [PyData.eqv, PyData.eqvAll, Bool.and_true]
  rfl
theorem shp2 {n : Nat} {a b : Int} : Shp (n + 1) (.tuple [.int a, .int b]) := .tup fun y hy => by
  simp only [List.mem_cons, List.not_mem_nil, or_false] at hy
  rcases hy with rfl | rfl <;> exact .int _
theorem eqf_2 {a b c d : Int} {P : Rv → Prop} : eqD false (.tuple [.int a, .int b]) (.tuple [.int c, .int d]) P = P (.d (.bool (decide (a = c) && decide (b = d)))) := by
  have h1 : SeqAt.shaped (.tuple [.int a, .int b] : Px) = true := (shp2 (n := 1)).sh
  have h2 : SeqAt.shaped (.tuple [.int c, .int d] : Px) = true := (shp2 (n := 1)).sh
  simp only [eqD, h1, h2, eqv_2, true_and]
  rfl
def eP (x : Kp) : Px := .tuple [.int x.t, .int x.s, .int x.r]
theorem cut3_2 {a b c : Px} : cutX [a, b, c] none (some 2) = [a, b] := cut_hd (i := 2) _ (by simp)
abbrev Cgo_along : Cn := fun rs g Q => ∃ (w : Web) (k : Wlk), rs = [.d (eW w), .d (eK k)] ∧ WebOk w 1000 ∧ StepsOk w k.steps ∧ k.steps.length ≤ 1000 ∧
  ∀ (ms xs : List Px), Q (.d (.tuple [eK (plainW w k), .tuple ms, .list xs])) g
def wgo_along : WS :=
  (sSeq (sAsg (eName 1) (gT 3 (gsCons (gN 2) (gsCons (gN 3) (gsCons (gN 4) gsNil)))))
  (sSeq (sAsg (eLst aNil) (gN 5))
  (sSeq (sAsg (eLst aNil) (gN 6))
  (sSeq (sAsg (eLst aNil) (gN 7))
  (sSeq (sFor (iTpl (eName 4)) (gT 3 (gsCons (gN 8) (gsCons (gN 9) (gsCons (gN 10) gsNil))))
  (sSeq (sAsg (eCallP Cends_of (aCons (eName 0) (aCons (eName 8) (aCons (eName 9) aNil)))) (gT 4 (gsCons (gN 11) (gsCons (gN 11) (gsCons (gN 12) (gsCons (gN 13) gsNil))))))
  (sSeq (sAsg (eOp modD (eName 3) (eCB absC (aCons (eName 12) aNil))) (gN 14))
  (sSeq (sAsg (eOp fdivD (eOp subD (eName 3) (eName 14)) (eName 12)) (gN 15))
  (sSeq (sAsg (eOp addD (eOp mulD (eName 13) (eName 15)) (eName 10)) (gN 3))
  (sSeq (sIf (wB (eScL 15 (eqD true) (eC (.int 0)))) (sSeq (sExp (eApp 6 (eTup (aCons (eC (.str "carry")) (aCons (eOp addD (eLenN 5) (eC (.int 1))) (aCons (eName 15) aNil))))))
  (sExp (eApp 7 (eName 3)))) sNil)
  (sIf (wAnd (wB (eScL 14 (eqD false) (eC (.int 0)))) (wAnd (wTruN 5) (wB (eSc (eqD false) (eSl (eIxN 5 (eUn negD (eC (.int 1)))) oNone (oSome (eC (.int 2)))) (eTup (aCons (eName 8) (aCons (eUn negD (eName 9)) aNil))))))) (sSeq (sExp (eApp 6 (eTup (aCons (eC (.str "strike")) (aCons (eLenN 5) aNil)))))
  (sSeq (sAug 3 iaddD (eIx (ePop 5) (eC (.int 2))))
  (sExp (eApp 7 (eName 3))))) (sExp (eApp 5 (eTup (aCons (eName 8) (aCons (eName 9) (aCons (eName 14) aNil)))))))))))))
  (sSeq (sAsg (eOp addD (eLc (iLst (eName 5)) (gT 3 (gsCons (gN 11) (gsCons (gN 11) (gsCons (gN 14) gsNil)))) wYes (eName 14) [11, 11, 14]) (eLst (aCons (eName 3) aNil))) (gN 16))
  (sSeq (sAsg (eCallP Cwalk_with (aCons (eName 2) (aCons (eName 16) (aCons (eLc (iLst (eName 5)) (gT 3 (gsCons (gN 8) (gsCons (gN 9) (gsCons (gN 11) gsNil)))) wYes (eTup (aCons (eName 8) (aCons (eName 9) aNil))) [8, 9, 11]) aNil)))) (gN 17))
  (sRet (eTup (aCons (eName 17) (aCons (eCB tupC (aCons (eName 6) aNil)) (aCons (eName 7) aNil))))))))))))
theorem lengo_along (rs : List Rv) (g : Option Nat) (Q : Rv → Option Nat → Prop) (h : Cgo_along rs g Q) : rs.length = 2 := by
  obtain ⟨w, k, rfl, _⟩ := h
  rfl
theorem go1_f {w : Web} {K : List Kp} {n : Int} {s : Stp} (h : fits K (restOf w n s) s = false) : go1 w (K, n) s = (K ++ [⟨restOf w n s, s.tie, s.side⟩], nextN w n s) := by
  unfold go1
  rw [if_neg (by rw [h]; decide)]
theorem go1_t {w : Web} {K : List Kp} {x : Kp} {n : Int} {s : Stp} (h : fits (K ++ [x]) (restOf w n s) s = true) : go1 w (K ++ [x], n) s = (K, nextN w n s + x.r) := by
  unfold go1
  rw [if_pos h]
  simp [lastR]
theorem specgo_along (rs : List Rv) (g : Option Nat) (Q : Rv → Option Nat → Prop) (h : Cgo_along rs g Q) : wgo_along (startC 18 rs g) (endP Q) fun _ _ => False := by
  obtain ⟨w, k, rfl, wo, hs, hl, hQ⟩ := h
  simp -dsimp only [rQ_, wgo_along, Cends_of, Cwalk_with, eK]
  refine ⟨by decide, by decide, by decide, ?_⟩
  refine forW_ind _ (fun i c => ∃ (kept : List Kp) (num : Int) (ms xs : List Px) (x8 x9 x10 x11 x12 x13 x14 x15 : Option Px), kept.length ≤ i ∧ ms.length ≤ 2 * i ∧ xs.length ≤ 2 * i ∧ (k.steps.take i).foldl (go1 w) ([], k.k) = (kept, num) ∧ c = ⟨[some (.d (eW w)), some (.d (eK k)), some (.d (.int k.room)), some (.d (.int num)), some (.d (.tuple (k.steps.map eS))), some (.own (kept.map eP)), some (.own ms), some (.own xs), x8.map .d, x9.map .d, x10.map .d, x11.map .d, x12.map .d, x13.map .d, x14.map .d, x15.map .d, none, none], g⟩) (fun i x c hx hI R hR => ?_) (fun c hI => ?_) _ ⟨[], k.k, [], [], none, none, none, none, none, none, none, none, by simp, by simp, by simp, by simp, rfl⟩
  · obtain ⟨kept, num, ms, xs, x8, x9, x10, x11, x12, x13, x14, x15, hkl, hml, hxl, hgo0, rfl⟩ := hI
    obtain ⟨s, hsi, rfl⟩ := map_at hx
    have hmem : s ∈ k.steps := List.mem_of_getElem? hsi
    obtain ⟨y, hy, he, hok⟩ := hs.e wo hmem
    have hi : i < k.steps.length := (List.getElem?_eq_some_iff.mp hsi).1
    have hgo : (k.steps.take (i + 1)).foldl (go1 w) ([], k.k) = go1 w (kept, num) s := by
      rw [List.take_succ, hsi, List.foldl_append, hgo0]
      rfl
    simp -dsimp only [rQ_, eS]
    refine ⟨w, s.tie, s.side, y, rfl, hy, ?_⟩
    simp -dsimp only [rQ_, eT]
    rw [he] at hok
    have hrest : restOf w num s = num.fmod ((rev y s.side).p.natAbs : Int) := by unfold restOf; rw [he]
    have hnx : nextN w num s = (rev y s.side).q * ((num - num.fmod ((rev y s.side).p.natAbs : Int)).fdiv (rev y s.side).p) + s.k := by
      unfold nextN manyOf
      rw [hrest, he]
    have hp0 := hok.p0
    have hp1 := hok.p1
    generalize (rev y s.side).p = p at hp0 hp1 hrest hnx ⊢
    have hq1 := hok.q1
    generalize (rev y s.side).q = q at hq1 hnx ⊢
    refine ⟨by omega, CDiv2.s hp0 (by omega) (by omega), ?_⟩
    generalize (num - num.fmod (p.natAbs : Int)).fdiv p = many at hnx ⊢
    generalize num.fmod (p.natAbs : Int) = rest at hrest hnx ⊢
    refine ⟨CMul2.l (by omega) (by omega), ?_⟩
    by_cases hm0 : many = 0
    · have hb0 : (many == 0) = true := by simpa using hm0
      simp -dsimp only [rQ_, hb0, Bool.not_true]
      have hmm : ms.length ≤ 2 * i + 1 := by omega
      have hxx : xs.length ≤ 2 * i + 1 := by omega
      have hm2 : ms.length ≤ 2 * (i + 1) := by omega
      have hx2 : xs.length ≤ 2 * (i + 1) := by omega
      by_cases hr0 : rest = 0
      · simp -dsimp only [rQ_, hr0, beq_self_eq_true]
        by_cases hk : kept = []
        · subst hk
          simp -dsimp only [rQ_, List.map_nil, List.isEmpty_nil, Bool.not_true]
          rw [← hr0]
          have hf : fits [] rest s = false := rfl
          refine ⟨by decide, hR _ ⟨[⟨rest, s.tie, s.side⟩], q * many + s.k, _, _, some (.int s.tie), some (.int s.side), some (.int s.k), some (.int (rev y s.side).w), some (.int p), some (.int q), some (.int rest), some (.int many), by simp, hm2, hx2, ?_, by simp [eP]⟩⟩
          rw [hgo, go1_f (by rw [hrest]; exact hf), hrest, hnx]
          rfl
        · obtain ⟨ys, r, rfl⟩ : ∃ ys r, kept = ys ++ [r] := ⟨_, _, (List.dropLast_concat_getLast hk).symm⟩
          have he2 : ((ys ++ [r]).map eP).isEmpty = false := by simp
          simp -dsimp only [rQ_, he2, Bool.not_false]
          simp only [List.map_append, List.map_cons, List.map_nil, ixll]
          rw [show eP r = .tuple [.int r.t, .int r.s, .int r.r] from rfl]
          simp -dsimp only [rQ_, slD_t, cut3_2, eqf_2]
          refine ⟨by decide, ?_⟩
          have hft : fits (ys ++ [r]) rest s = (decide (r.t = s.tie) && decide (r.s = -s.side)) := by
            unfold fits
            simp [hr0]
          generalize hb : (decide (r.t = s.tie) && decide (r.s = -s.side)) = b at hft ⊢
          cases b
          · simp -dsimp only [rQ_]
            rw [← hr0]
            refine ⟨by decide, by simp at hkl ⊢; omega, hR _ ⟨(ys ++ [r]) ++ [⟨rest, s.tie, s.side⟩], q * many + s.k, _, _, some (.int s.tie), some (.int s.side), some (.int s.k), some (.int (rev y s.side).w), some (.int p), some (.int q), some (.int rest), some (.int many), by simp at hkl ⊢; omega, hm2, hx2, ?_, by simp [eP]⟩⟩
            rw [hgo, go1_f (by rw [hrest]; exact hft), hrest, hnx]
          · simp -dsimp only [rQ_]
            refine ⟨by decide, by first | omega | (simp at hmm ⊢; omega), ?_⟩
            rw [show ∀ (l : List Px) (a : Px), (l ++ [a])[(l ++ [a]).length - 1]? = some a from fun l a => by simp, List.dropLast_concat]
            try simp -dsimp only [rQ_]
            refine ⟨by first | omega | (simp at hxx ⊢; omega), hR _ ⟨ys, q * many + s.k + r.r, _, _, some (.int s.tie), some (.int s.side), some (.int s.k), some (.int (rev y s.side).w), some (.int p), some (.int q), some (.int 0), some (.int many), by simp at hkl; omega, by first | (simp; omega) | (simp at hmm ⊢; omega), by first | (simp; omega) | (simp at hxx ⊢; omega), ?_, rfl⟩⟩
            rw [hgo, go1_t (by rw [hrest]; exact hft), hnx]
      · have hb : (rest == 0) = false := by simpa using hr0
        simp -dsimp only [rQ_, hb]
        have hf : fits kept rest s = false := by
          unfold fits
          split <;> simp [hr0]
        refine ⟨by decide, by simp at hkl ⊢; omega, hR _ ⟨kept ++ [⟨rest, s.tie, s.side⟩], q * many + s.k, _, _, some (.int s.tie), some (.int s.side), some (.int s.k), some (.int (rev y s.side).w), some (.int p), some (.int q), some (.int rest), some (.int many), by simp at hkl ⊢; omega, hm2, hx2, ?_, by simp [eP]⟩⟩
        rw [hgo, go1_f (by rw [hrest]; exact hf), hrest, hnx]
    · have hb0 : (many == 0) = false := by simpa using hm0
      simp -dsimp only [rQ_, hb0, Bool.not_false]
      refine ⟨by decide, by omega, by omega, ?_⟩
      have hmm : (ms ++ [PyData.tuple [.str "carry", .int (((kept.map eP).length : Int) + 1), .int many]]).length ≤ 2 * i + 1 := by simp; omega
      have hxx : (xs ++ [PyData.int (q * many + s.k)]).length ≤ 2 * i + 1 := by simp; omega
      have hm2 : (ms ++ [PyData.tuple [.str "carry", .int (((kept.map eP).length : Int) + 1), .int many]]).length ≤ 2 * (i + 1) := by omega
      have hx2 : (xs ++ [PyData.int (q * many + s.k)]).length ≤ 2 * (i + 1) := by omega
      by_cases hr0 : rest = 0
      · simp -dsimp only [rQ_, hr0, beq_self_eq_true]
        by_cases hk : kept = []
        · subst hk
          simp -dsimp only [rQ_, List.map_nil, List.isEmpty_nil, Bool.not_true]
          rw [← hr0]
          have hf : fits [] rest s = false := rfl
          refine ⟨by decide, hR _ ⟨[⟨rest, s.tie, s.side⟩], q * many + s.k, _, _, some (.int s.tie), some (.int s.side), some (.int s.k), some (.int (rev y s.side).w), some (.int p), some (.int q), some (.int rest), some (.int many), by simp, hm2, hx2, ?_, by simp [eP]⟩⟩
          rw [hgo, go1_f (by rw [hrest]; exact hf), hrest, hnx]
          rfl
        · obtain ⟨ys, r, rfl⟩ : ∃ ys r, kept = ys ++ [r] := ⟨_, _, (List.dropLast_concat_getLast hk).symm⟩
          have he2 : ((ys ++ [r]).map eP).isEmpty = false := by simp
          simp -dsimp only [rQ_, he2, Bool.not_false]
          simp only [List.map_append, List.map_cons, List.map_nil, ixll]
          rw [show eP r = .tuple [.int r.t, .int r.s, .int r.r] from rfl]
          simp -dsimp only [rQ_, slD_t, cut3_2, eqf_2]
          refine ⟨by decide, ?_⟩
          have hft : fits (ys ++ [r]) rest s = (decide (r.t = s.tie) && decide (r.s = -s.side)) := by
            unfold fits
            simp [hr0]
          generalize hb : (decide (r.t = s.tie) && decide (r.s = -s.side)) = b at hft ⊢
          cases b
          · simp -dsimp only [rQ_]
            rw [← hr0]
            refine ⟨by decide, by simp at hkl ⊢; omega, hR _ ⟨(ys ++ [r]) ++ [⟨rest, s.tie, s.side⟩], q * many + s.k, _, _, some (.int s.tie), some (.int s.side), some (.int s.k), some (.int (rev y s.side).w), some (.int p), some (.int q), some (.int rest), some (.int many), by simp at hkl ⊢; omega, hm2, hx2, ?_, by simp [eP]⟩⟩
            rw [hgo, go1_f (by rw [hrest]; exact hft), hrest, hnx]
          · simp -dsimp only [rQ_]
            refine ⟨by decide, by first | omega | (simp at hmm ⊢; omega), ?_⟩
            rw [show ∀ (l : List Px) (a : Px), (l ++ [a])[(l ++ [a]).length - 1]? = some a from fun l a => by simp, List.dropLast_concat]
            try simp -dsimp only [rQ_]
            refine ⟨by first | omega | (simp at hxx ⊢; omega), hR _ ⟨ys, q * many + s.k + r.r, _, _, some (.int s.tie), some (.int s.side), some (.int s.k), some (.int (rev y s.side).w), some (.int p), some (.int q), some (.int 0), some (.int many), by simp at hkl; omega, by first | (simp; omega) | (simp at hmm ⊢; omega), by first | (simp; omega) | (simp at hxx ⊢; omega), ?_, rfl⟩⟩
            rw [hgo, go1_t (by rw [hrest]; exact hft), hnx]
      · have hb : (rest == 0) = false := by simpa using hr0
        simp -dsimp only [rQ_, hb]
        have hf : fits kept rest s = false := by
          unfold fits
          split <;> simp [hr0]
        refine ⟨by decide, by simp at hkl ⊢; omega, hR _ ⟨kept ++ [⟨rest, s.tie, s.side⟩], q * many + s.k, _, _, some (.int s.tie), some (.int s.side), some (.int s.k), some (.int (rev y s.side).w), some (.int p), some (.int q), some (.int rest), some (.int many), by simp at hkl ⊢; omega, hm2, hx2, ?_, by simp [eP]⟩⟩
        rw [hgo, go1_f (by rw [hrest]; exact hf), hrest, hnx]
  · obtain ⟨kept, num, ms, xs, x8, x9, x10, x11, x12, x13, x14, x15, hkl, hml, hxl, hgo0, rfl⟩ := hI
    rw [List.length_map] at hkl hml hxl hgo0
    rw [List.take_length] at hgo0
    have hgw : goW w k = (kept, num) := hgo0
    try simp -dsimp only [rQ_]
    refine ⟨by simp [nown], ?_⟩
    refine lcW_mpa eP (fun x => .int x.r) _ (fun s hs R S hR => ?_) (by omega) ?_
    · simp -dsimp only [rQ_, Turn1, wipeE, eP]
      exact hR
    try simp -dsimp only [rQ_]
    refine ⟨by decide, by simp; omega, by simp [nown], ?_⟩
    refine lcW_mpa eP (fun x => eC2 x.c) _ (fun s hs R S hR => ?_) (by omega) ?_
    · simp -dsimp only [rQ_, Turn1, wipeE, eP]
      exact ⟨by decide, hR⟩
    try simp -dsimp only [rQ_]
    refine ⟨k.room, kept.map Kp.r ++ [num], kept.map Kp.c, by simp, by simp, by simp; omega, ?_⟩
    try simp -dsimp only [rQ_]
    have e : mkW k.room (kept.map Kp.r ++ [num]) (kept.map Kp.c) = plainW w k := by
      unfold plainW endW
      rw [hgw]
    rw [e]
    exact ⟨by decide, hQ _ _⟩
end K
set_option Elab.async false
set_option maxRecDepth 100000
set_option linter.all false
set_option autoImplicit false
set_option maxHeartbeats 4000000
namespace K
open PySem L2 Dl
variable [TabF]
theorem Shp.up {n m : Nat} {x : Px} (h : Shp n x) (k : n ≤ m) : Shp m x := ⟨h.1, Nat.le_trans h.2 k⟩
theorem shp_eS (s : Stp) : Shp 1 (eS s) := .tup fun y hy => by
  simp only [List.mem_cons, List.not_mem_nil, or_false] at hy
  rcases hy with rfl | rfl | rfl <;> exact .int _
theorem shp_eK (k : Wlk) : Shp 3 (eK k) := .tup fun y hy => by
  simp only [List.mem_cons, List.not_mem_nil, or_false] at hy
  rcases hy with rfl | rfl | rfl
  · exact .int _
  · exact .int _
  · exact .tup fun y hy => by
      obtain ⟨s, _, rfl⟩ := List.mem_map.mp hy
      exact shp_eS s
instance decStp : DecidableEq Stp := fun a b => if h : a.tie = b.tie ∧ a.side = b.side ∧ a.k = b.k then .isTrue (by
    obtain ⟨t, s, k⟩ := a
    obtain ⟨t', s', k'⟩ := b
    obtain ⟨h1, h2, h3⟩ := h
    simp only at h1 h2 h3
    rw [h1, h2, h3]) else .isFalse fun e => h (by rw [e]; exact ⟨rfl, rfl, rfl⟩)
instance decWlk : DecidableEq Wlk := fun a b => if h : a.room = b.room ∧ a.k = b.k ∧ a.steps = b.steps then .isTrue (by
    obtain ⟨t, s, k⟩ := a
    obtain ⟨t', s', k'⟩ := b
    obtain ⟨h1, h2, h3⟩ := h
    simp only at h1 h2 h3
    rw [h1, h2, h3]) else .isFalse fun e => h (by rw [e]; exact ⟨rfl, rfl, rfl⟩)
theorem eqv_eS (a b : Stp) : PyData.eqv (eS a) (eS b) = decide (a = b) := by
  obtain ⟨t, s, k⟩ := a
  obtain ⟨t', s', k'⟩ := b
  simp only [eS, PyData.eqv, PyData.eqvAll, Bool.and_true]
  rw [Bool.eq_iff_iff]
  simp
theorem eqvAll_eS : ∀ l m : List Stp, PyData.eqvAll (l.map eS) (m.map eS) = decide (l = m)
  | [], [] => rfl
  | [], _ :: _ => rfl
  | _ :: _, [] => rfl
  | a :: l, b :: m => by
    show (PyData.eqv (eS a) (eS b) && PyData.eqvAll (l.map eS) (m.map eS)) = _
    rw [eqv_eS, eqvAll_eS l m, Bool.eq_iff_iff]
    simp
theorem eqv_eK (a b : Wlk) : PyData.eqv (eK a) (eK b) = decide (a = b) := by
  obtain ⟨t, s, k⟩ := a
  obtain ⟨t', s', k'⟩ := b
  simp only [eK, PyData.eqv, PyData.eqvAll, Bool.and_true, eqvAll_eS]
  rw [Bool.eq_iff_iff]
  simp
theorem eqf_eK {a b : Wlk} {P : Rv → Prop} : eqD false (eK a) (eK b) P = P (.d (.bool (decide (a = b)))) := by
  simp only [eqD, (shp_eK a).sh, (shp_eK b).sh, eqv_eK, true_and]
  rfl
/-- what a walk must be so that it can be gone along -/
structure WK (w : Web) (k : Wlk) : Prop where
  wo : WebOk w 1000
  st : StepsOk w k.steps
  ln : k.steps.length ≤ 1000
abbrev Cplain_of_any_size : Cn := fun rs g Q => ∃ (w : Web) (k : Wlk), rs = [.d (eW w), .d (eK k)] ∧ WK w k ∧ Q (.d (eK (plainW w k))) g
def wplain_of_any_size : WS :=
  (sRet (eIx (eCallP Cgo_along (aCons (eName 0) (aCons (eName 1) aNil))) (eC (.int 0))))
theorem lenplain_of_any_size (rs : List Rv) (g : Option Nat) (Q : Rv → Option Nat → Prop) (h : Cplain_of_any_size rs g Q) : rs.length = 2 := by
  obtain ⟨w, k, rfl, _⟩ := h
  rfl
theorem specplain_of_any_size (rs : List Rv) (g : Option Nat) (Q : Rv → Option Nat → Prop) (h : Cplain_of_any_size rs g Q) : wplain_of_any_size (startC 2 rs g) (endP Q) fun _ _ => False := by
  obtain ⟨w, k, rfl, hw, hQ⟩ := h
  simp -dsimp only [rQ_, wplain_of_any_size, Cgo_along]
  refine ⟨w, k, rfl, hw.wo, hw.st, hw.ln, fun ms xs => ?_⟩
  try simp -dsimp only [rQ_]
  exact hQ
abbrev Care_equal : Cn := fun rs g Q => ∃ (w : Web) (k l : Wlk), rs = [.d (eW w), .d (eK k), .d (eK l)] ∧ WK w k ∧ WK w l ∧ Q (.d (.bool (decide (plainW w k = plainW w l)))) g
def ware_equal : WS :=
  (sRet (eSc (eqD false) (eCallP Cplain_of_any_size (aCons (eName 0) (aCons (eName 1) aNil))) (eCallP Cplain_of_any_size (aCons (eName 0) (aCons (eName 2) aNil)))))
theorem lenare_equal (rs : List Rv) (g : Option Nat) (Q : Rv → Option Nat → Prop) (h : Care_equal rs g Q) : rs.length = 3 := by
  obtain ⟨w, k, l, rfl, _⟩ := h
  rfl
theorem specare_equal (rs : List Rv) (g : Option Nat) (Q : Rv → Option Nat → Prop) (h : Care_equal rs g Q) : ware_equal (startC 3 rs g) (endP Q) fun _ _ => False := by
  obtain ⟨w, k, l, rfl, hk, hl, hQ⟩ := h
  simp -dsimp only [rQ_, ware_equal, Cplain_of_any_size]
  refine ⟨w, k, rfl, hk, ?_⟩
  try simp -dsimp only [rQ_]
  refine ⟨w, l, rfl, hl, ?_⟩
  simp -dsimp only [rQ_, eqf_eK]
  exact hQ
end K
set_option Elab.async false
set_option maxRecDepth 100000
set_option linter.all false
set_option autoImplicit false
set_option maxHeartbeats 4000000
namespace K
open PySem L2 Dl
variable [TabF]
/-! ### what a walk does to kept rows; going back undoes it -/
theorem snocInd {α : Type} {P : List α → Prop} (h0 : P []) (hs : ∀ l a, P l → P (l ++ [a])) : ∀ l, P l := by
  intro l
  rw [← List.reverse_reverse l]
  induction l.reverse with
  | nil => exact h0
  | cons a l ih => rw [List.reverse_cons]; exact hs _ _ ih
structure SOk (w : Web) (s : Stp) : Prop where
  sd : s.side = 1 ∨ s.side = -1
  p0 : (w.e s).p ≠ 0
  q0 : (w.e s).q ≠ 0
theorem e_neg {w : Web} {t s k k' : Int} (h : s = 1 ∨ s = -1) : (w.e ⟨t, -s, k⟩).p = (w.e ⟨t, s, k'⟩).q ∧ (w.e ⟨t, -s, k⟩).q = (w.e ⟨t, s, k'⟩).p ∧ (w.e ⟨t, -s, k⟩).v = (w.e ⟨t, s, k'⟩).w ∧ (w.e ⟨t, -s, k⟩).w = (w.e ⟨t, s, k'⟩).v := by
  unfold Web.e rev
  rcases h with rfl | rfl <;> simp
theorem fmod_add {n p m : Int} (hp : p ≠ 0) : (n + p * m).fmod (p.natAbs : Int) = n.fmod (p.natAbs : Int) := by
  rw [Int.fmod_eq_emod_of_nonneg _ (by omega), Int.fmod_eq_emod_of_nonneg _ (by omega)]
  rcases Int.natAbs_eq p with h | h
  · rw [← h, Int.add_mul_emod_self_left]
  · have : p * m = (p.natAbs : Int) * (-m) := by
      conv => lhs; rw [h]
      rw [Int.neg_mul, Int.mul_neg]
    rw [this, Int.add_mul_emod_self_left]
theorem many_eq {n p : Int} (hp : p ≠ 0) : n = n.fmod (p.natAbs : Int) + p * (n - n.fmod (p.natAbs : Int)).fdiv p := by
  have hm : (0 : Int) < (p.natAbs : Int) := by omega
  have e1 : n.fmod (p.natAbs : Int) = n % (p.natAbs : Int) := Int.fmod_eq_emod_of_nonneg n (by omega)
  have e2 : n - n % (p.natAbs : Int) = (p.natAbs : Int) * (n / (p.natAbs : Int)) := by
    have := Int.mul_ediv_add_emod n (p.natAbs : Int)
    omega
  have e4 : ∃ d, n - n % (p.natAbs : Int) = d * p := by
    rcases Int.natAbs_eq p with h | h
    · exact ⟨n / (p.natAbs : Int), by rw [e2, ← h, Int.mul_comm]⟩
    · refine ⟨-(n / (p.natAbs : Int)), ?_⟩
      rw [e2]
      generalize n / (p.natAbs : Int) = d
      generalize (p.natAbs : Int) = g at h
      rw [h, Int.neg_mul_neg, Int.mul_comm]
  obtain ⟨d, hd⟩ := e4
  rw [e1, hd, Int.mul_fdiv_cancel _ hp, Int.mul_comm p d, ← hd]
  omega
theorem restMany {w : Web} {n : Int} {s : Stp} (hp : (w.e s).p ≠ 0) : n = restOf w n s + (w.e s).p * manyOf w n s := many_eq hp
theorem rest_add {w : Web} {n m : Int} {s : Stp} (hp : (w.e s).p ≠ 0) : restOf w (n + (w.e s).p * m) s = restOf w n s := fmod_add hp
theorem many_add {w : Web} {n m : Int} {s : Stp} (hp : (w.e s).p ≠ 0) : manyOf w (n + (w.e s).p * m) s = manyOf w n s + m := by
  have h1 := restMany (n := n) hp
  have h2 := restMany (n := n + (w.e s).p * m) hp
  rw [rest_add hp] at h2
  have h3 : (w.e s).p * manyOf w (n + (w.e s).p * m) s = (w.e s).p * (manyOf w n s + m) := by
    rw [Int.mul_add]
    omega
  exact Int.eq_of_mul_eq_mul_left hp h3
theorem go1_carry {w : Web} {L : List Kp} {n m : Int} {s : Stp} (hp : (w.e s).p ≠ 0) : go1 w (L, n + (w.e s).p * m) s = go1 w (L, n) ⟨s.tie, s.side, s.k + (w.e s).q * m⟩ := by
  have e1 : restOf w n ⟨s.tie, s.side, s.k + (w.e s).q * m⟩ = restOf w n s := rfl
  have e2 : nextN w n ⟨s.tie, s.side, s.k + (w.e s).q * m⟩ = nextN w n s + (w.e s).q * m := by
    show (w.e s).q * manyOf w n s + (s.k + _) = (w.e s).q * manyOf w n s + s.k + _
    omega
  have e3 : nextN w (n + (w.e s).p * m) s = nextN w n s + (w.e s).q * m := by
    unfold nextN
    rw [many_add hp, Int.mul_add]
    omega
  have e4 : fits L (restOf w n s) ⟨s.tie, s.side, s.k + (w.e s).q * m⟩ = fits L (restOf w n s) s := rfl
  simp only [go1, e1, e2, e3, e4, rest_add hp]
theorem go1_add {w : Web} {a : List Kp × Int} {t s k d : Int} : go1 w a ⟨t, s, k + d⟩ = ((go1 w a ⟨t, s, k⟩).1, (go1 w a ⟨t, s, k⟩).2 + d) := by
  have e2 : nextN w a.2 ⟨t, s, k + d⟩ = nextN w a.2 ⟨t, s, k⟩ + d := by
    show (w.e ⟨t, s, k⟩).q * manyOf w a.2 ⟨t, s, k⟩ + (k + d) = (w.e ⟨t, s, k⟩).q * manyOf w a.2 ⟨t, s, k⟩ + k + d
    omega
  have e1 : restOf w a.2 ⟨t, s, k + d⟩ = restOf w a.2 ⟨t, s, k⟩ := rfl
  have e4 : fits a.1 (restOf w a.2 ⟨t, s, k⟩) ⟨t, s, k + d⟩ = fits a.1 (restOf w a.2 ⟨t, s, k⟩) ⟨t, s, k⟩ := rfl
  simp only [go1, e1, e2, e4]
  split
  · simp only [Prod.mk.injEq, true_and]
    omega
  · rfl
theorem rest_at {w : Web} {r m : Int} {s : Stp} (hp : (w.e s).p ≠ 0) (h0 : 0 ≤ r) (h1 : r < ((w.e s).p.natAbs : Int)) : restOf w (r + (w.e s).p * m) s = r ∧ manyOf w (r + (w.e s).p * m) s = m := by
  rw [rest_add hp, many_add hp]
  obtain ⟨a, b⟩ := rest_small h0 h1
  exact ⟨a, by omega⟩
theorem go1_strike {w : Web} {K : List Kp} {n t s k : Int} (hK : Red w K) (h : SOk w ⟨t, s, 0⟩) : go1 w (go1 w (K, n) ⟨t, s, 0⟩) ⟨t, -s, k⟩ = (K, n + k) := by
  obtain ⟨hs, hp, hq⟩ := h
  have en := e_neg (w := w) (t := t) (s := s) (k := k) (k' := 0) hs
  have hp2 : (w.e ⟨t, -s, k⟩).p ≠ 0 := by rw [en.1]; exact hq
  have hn := restMany (n := n) hp
  have hN : nextN w n ⟨t, s, 0⟩ = (w.e ⟨t, s, 0⟩).q * manyOf w n ⟨t, s, 0⟩ := Int.add_zero _
  by_cases hf : fits K (restOf w n ⟨t, s, 0⟩) ⟨t, s, 0⟩ = true
  · cases hK with
    | nil => cases hf
    | snoc x hK h0 h1 hx =>
      rename_i K'
      rw [go1_t hf]
      have hf2 : restOf w n ⟨t, s, 0⟩ = 0 ∧ x.t = t ∧ x.s = -s := by
        unfold fits at hf
        simp at hf
        exact hf
      obtain ⟨f1, f2, f3⟩ := hf2
      rw [f2, f3, e_k (k' := k)] at h1
      obtain ⟨r1, r2⟩ := rest_at (w := w) (s := ⟨t, -s, k⟩) (m := manyOf w n ⟨t, s, 0⟩) hp2 h0 h1
      have e1 : nextN w n ⟨t, s, 0⟩ + x.r = x.r + (w.e ⟨t, -s, k⟩).p * manyOf w n ⟨t, s, 0⟩ := by
        rw [hN, en.1]
        omega
      rw [e1, go1_f (by rw [r1, ← f2, ← f3]; exact hx), r1]
      have e2 : nextN w (x.r + (w.e ⟨t, -s, k⟩).p * manyOf w n ⟨t, s, 0⟩) ⟨t, -s, k⟩ = n + k := by
        unfold nextN
        rw [r2, en.2.1]
        show _ + k = n + k
        rw [f1] at hn
        omega
      rw [e2, ← f2, ← f3]
  · have hf' : fits K (restOf w n ⟨t, s, 0⟩) ⟨t, s, 0⟩ = false := by simpa using hf
    rw [go1_f hf']
    obtain ⟨r1, r2⟩ := rest_at (w := w) (s := ⟨t, -s, k⟩) (r := 0) (m := manyOf w n ⟨t, s, 0⟩) hp2 (by omega) (by omega)
    have e1 : nextN w n ⟨t, s, 0⟩ = 0 + (w.e ⟨t, -s, k⟩).p * manyOf w n ⟨t, s, 0⟩ := by
      rw [hN, en.1]
      omega
    have hf2 : fits (K ++ [⟨restOf w n ⟨t, s, 0⟩, t, s⟩]) (restOf w (nextN w n ⟨t, s, 0⟩) ⟨t, -s, k⟩) ⟨t, -s, k⟩ = true := by
      rw [e1, r1]
      unfold fits
      simp
    rw [go1_t hf2]
    have e2 : nextN w (nextN w n ⟨t, s, 0⟩) ⟨t, -s, k⟩ = (w.e ⟨t, s, 0⟩).p * manyOf w n ⟨t, s, 0⟩ + k := by
      unfold nextN
      rw [show (w.e ⟨t, s, 0⟩).q * manyOf w n ⟨t, s, 0⟩ + (⟨t, s, 0⟩ : Stp).k = nextN w n ⟨t, s, 0⟩ from rfl, e1, r2, en.2.1]
    rw [e2]
    simp only [Prod.mk.injEq, true_and]
    omega
def act (w : Web) (k : Wlk) (a : List Kp × Int) : List Kp × Int := k.steps.foldl (go1 w) (a.1, a.2 + k.k)
theorem goW_act (w : Web) (k : Wlk) : goW w k = act w k ([], 0) := by
  unfold goW act
  simp
theorem Red.fold {w : Web} {l : List Stp} {a : List Kp × Int} (hl : ∀ s ∈ l, (w.e s).p ≠ 0) (h : Red w a.1) : Red w (l.foldl (go1 w) a).1 := by
  induction l generalizing a with
  | nil => exact h
  | cons s l ih => exact ih (fun z hz => hl z (List.mem_cons_of_mem _ hz)) (h.go (hl s List.mem_cons_self))
theorem act_snoc {w : Web} {r : Int} {K : List Kp} {x : Kp} {n : Int} {a : List Kp × Int} : act w (endW r (K ++ [x], n)) a = go1 w (act w (endW r (K, x.r)) a) ⟨x.t, x.s, n⟩ := by
  obtain ⟨e1, e2⟩ := endW_snoc r K x n
  unfold act
  rw [e1, e2, List.foldl_append]
  rfl
theorem act_add {w : Web} {r : Int} {K : List Kp} {n d : Int} {a : List Kp × Int} : act w (endW r (K, n + d)) a = ((act w (endW r (K, n)) a).1, (act w (endW r (K, n)) a).2 + d) := by
  rcases List.eq_nil_or_concat K with rfl | ⟨K, x, rfl⟩
  · show (a.1, a.2 + (n + d)) = (a.1, a.2 + n + d)
    rw [Int.add_assoc]
  · rw [List.concat_eq_append, act_snoc, act_snoc, go1_add]
theorem Red.end {w : Web} {K : List Kp} (h : Red w K) (r n : Int) : ∀ s ∈ (endW r (K, n)).steps, (w.e s).p ≠ 0 := by
  induction h generalizing n with
  | nil => intro s hs; cases hs
  | snoc x h h0 h1 hf ih =>
    intro s hs
    rw [(endW_snoc r _ x n).2] at hs
    rcases List.mem_append.mp hs with hs | hs
    · exact ih _ s hs
    · simp only [List.mem_cons, List.not_mem_nil, or_false] at hs
      subst hs
      rw [e_k (k' := 0)]
      omega
theorem Red.act {w : Web} {K : List Kp} (h : Red w K) (r n : Int) {a : List Kp × Int} (ha : Red w a.1) : Red w (act w (endW r (K, n)) a).1 := Red.fold (h.end r n) ha
/-- a walk does to kept rows what its plain walk does -/
theorem end_act {w : Web} (r n0 : Int) : ∀ l : List Stp, (∀ s ∈ l, SOk w s) → ∀ (J : List Kp) (m : Int), Red w J → l.foldl (go1 w) (J, m + n0) = act w (endW r (l.foldl (go1 w) ([], n0))) (J, m) := by
  intro l
  refine snocInd (P := fun l => (∀ s ∈ l, SOk w s) → ∀ (J : List Kp) (m : Int), Red w J → l.foldl (go1 w) (J, m + n0) = act w (endW r (l.foldl (go1 w) ([], n0))) (J, m)) (fun _ J m hJ => rfl) (fun l s ih hl J m hJ => ?_) l
  have hs : SOk w s := hl s (by simp)
  have e := ih (fun z hz => hl z (List.mem_append_left _ hz)) J m hJ
  have hK : Red w (l.foldl (go1 w) ([], n0)).1 := Red.fold (fun z hz => (hl z (List.mem_append_left _ hz)).p0) .nil
  rw [List.foldl_append, List.foldl_append, e]
  simp only [List.foldl_cons, List.foldl_nil]
  revert hK
  generalize l.foldl (go1 w) ([], n0) = a
  obtain ⟨K, n⟩ := a
  intro hK
  have hn := restMany (w := w) (n := n) (s := s) hs.p0
  by_cases hf : fits K (restOf w n s) s = true
  · cases hK with
    | nil => cases hf
    | snoc x hK h0 h1 hx =>
      rename_i K'
      change go1 w (act w (endW r (K' ++ [x], n)) (J, m)) s = act w (endW r (go1 w (K' ++ [x], n) s)) (J, m)
      have hf2 : restOf w n s = 0 ∧ x.t = s.tie ∧ x.s = -s.side := by
        unfold fits at hf
        simp at hf
        exact hf
      obtain ⟨f1, f2, f3⟩ := hf2
      rw [go1_t hf, act_snoc, show nextN w n s + x.r = x.r + nextN w n s from Int.add_comm _ _, act_add, f2, f3]
      have hY : Red w (act w (endW r (K', x.r)) (J, m)).1 := hK.act r x.r hJ
      generalize act w (endW r (K', x.r)) (J, m) = Y at hY ⊢
      obtain ⟨Y1, Y2⟩ := Y
      have en := e_neg (w := w) (t := s.tie) (s := s.side) (k := 0) (k' := s.k) hs.sd
      have so : SOk w ⟨s.tie, -s.side, 0⟩ := ⟨by have := hs.sd; show -s.side = 1 ∨ -s.side = -1; omega, by rw [en.1]; exact hs.q0, by rw [en.2.1]; exact hs.p0⟩
      have hst := go1_strike (n := Y2) (k := s.k + (w.e s).q * manyOf w n s) hY so
      rw [Int.neg_neg] at hst
      rw [show n = 0 + (w.e s).p * manyOf w n s by omega, go1_add, go1_carry hs.p0]
      show go1 w ((go1 w (Y1, Y2) ⟨s.tie, -s.side, 0⟩).1, (go1 w (Y1, Y2) ⟨s.tie, -s.side, 0⟩).2) _ = _
      rw [show ((0 : Int) + (w.e s).p * manyOf w n s) = n by omega]
      rw [show ((go1 w (Y1, Y2) ⟨s.tie, -s.side, 0⟩).1, (go1 w (Y1, Y2) ⟨s.tie, -s.side, 0⟩).2) = go1 w (Y1, Y2) ⟨s.tie, -s.side, 0⟩ from rfl, hst]
      show (Y1, Y2 + (s.k + _)) = (Y1, Y2 + (_ + s.k))
      rw [Int.add_comm s.k]
  · have hf' : fits K (restOf w n s) s = false := by simpa using hf
    rw [go1_f hf', act_snoc]
    show go1 w (act w (endW r (K, n)) (J, m)) s = go1 w (act w (endW r (K, restOf w n s)) (J, m)) ⟨s.tie, s.side, nextN w n s⟩
    conv => lhs; rw [hn]
    rw [act_add, go1_carry hs.p0]
    congr 1
    show Stp.mk _ _ (s.k + _) = Stp.mk _ _ (_ + s.k)
    rw [Int.add_comm]
end K
set_option Elab.async false
set_option maxRecDepth 100000
set_option linter.all false
set_option autoImplicit false
set_option maxHeartbeats 4000000
namespace K
open PySem L2 Dl
variable [TabF]
/-! ### the opposite walk -/
def rvc (c : Int × Int) : Int × Int := (c.1, -c.2)
def endR (w : Web) (k : Wlk) : Int := match k.steps.getLast? with
  | some s => (w.e s).w
  | none => k.room
def backW (w : Web) (k : Wlk) : Wlk := mkW (endR w k) ((nums k).reverse.map fun i => -i) ((k.steps.map cr).reverse.map rvc)
theorem back_snoc (w w' : Web) (r r' n0 : Int) (l : List Stp) (s : Stp) : (backW w ⟨r, n0, l ++ [s]⟩).k = -s.k ∧ (backW w ⟨r, n0, l ++ [s]⟩).steps = ⟨s.tie, -s.side, (backW w' ⟨r', n0, l⟩).k⟩ :: (backW w' ⟨r', n0, l⟩).steps := by
  unfold backW mkW nums
  simp only [List.map_append, List.map_cons, List.map_nil, List.reverse_cons, List.reverse_append, List.reverse_nil, List.nil_append, List.cons_append, List.headD_cons, List.tail_cons, true_and]
  obtain ⟨a, m, e⟩ : ∃ a m, List.map (fun i : Int => -i) ((List.map Stp.k l).reverse ++ [n0]) = a :: m := by
    cases h : List.map (fun i : Int => -i) ((List.map Stp.k l).reverse ++ [n0]) with
    | nil => simp at h
    | cons a m => exact ⟨a, m, rfl⟩
  simp only [List.map_append, List.map_cons, List.map_nil] at e
  rw [e]
  simp [rvc, cr]
theorem act_back {w : Web} (r n0 : Int) : ∀ l : List Stp, (∀ s ∈ l, SOk w s) → ∀ (J : List Kp) (m : Int), Red w J → act w (backW w ⟨r, n0, l⟩) (act w ⟨r, n0, l⟩ (J, m)) = (J, m) := by
  intro l
  refine snocInd (P := fun l => (∀ s ∈ l, SOk w s) → ∀ (J : List Kp) (m : Int), Red w J → act w (backW w ⟨r, n0, l⟩) (act w ⟨r, n0, l⟩ (J, m)) = (J, m)) (fun _ J m hJ => ?_) (fun l s ih hl J m hJ => ?_) l
  · show (J, m + n0 + -n0) = (J, m)
    rw [Int.add_neg_cancel_right]
  · have hs : SOk w s := hl s (by simp)
    have e := ih (fun z hz => hl z (List.mem_append_left _ hz)) J m hJ
    have hY : Red w (act w ⟨r, n0, l⟩ (J, m)).1 := Red.fold (fun z hz => (hl z (List.mem_append_left _ hz)).p0) hJ
    have e1 : act w ⟨r, n0, l ++ [s]⟩ (J, m) = go1 w (act w ⟨r, n0, l⟩ (J, m)) s := by
      unfold act
      rw [List.foldl_append]
      rfl
    rw [e1]
    obtain ⟨b1, b2⟩ := back_snoc w w r r n0 l s
    revert e hY
    generalize act w ⟨r, n0, l⟩ (J, m) = Y
    intro e hY
    obtain ⟨Y1, Y2⟩ := Y
    have e2 : act w (backW w ⟨r, n0, l ++ [s]⟩) (go1 w (Y1, Y2) s) = act w (backW w ⟨r, n0, l⟩) (Y1, Y2) := by
      unfold act
      rw [b1, b2, List.foldl_cons]
      have h1 : ((go1 w (Y1, Y2) s).1, (go1 w (Y1, Y2) s).2 + -s.k) = go1 w (Y1, Y2) ⟨s.tie, s.side, 0⟩ := by
        have := go1_add (w := w) (a := (Y1, Y2)) (t := s.tie) (s := s.side) (k := s.k) (d := -s.k)
        rw [Int.add_right_neg] at this
        exact this.symm
      rw [h1, go1_strike hY ⟨hs.sd, hs.p0, hs.q0⟩]
    rw [e2, e]
theorem map_neg_neg (l : List Int) : (l.map fun i => -i).map (fun i => -i) = l := by
  rw [List.map_map]
  conv => rhs; rw [← List.map_id l]
  exact List.map_congr_left fun a _ => Int.neg_neg a
theorem map_rvc_rvc (l : List (Int × Int)) : (l.map rvc).map rvc = l := by
  rw [List.map_map]
  conv => rhs; rw [← List.map_id l]
  refine List.map_congr_left fun a _ => ?_
  show (a.1, - -a.2) = a
  rw [Int.neg_neg]
theorem back_nums (w : Web) (k : Wlk) : nums (backW w k) = (nums k).reverse.map fun i => -i := mkW_nums (by simp [nums])
theorem back_cr (w : Web) (k : Wlk) : (backW w k).steps.map cr = (k.steps.map cr).reverse.map rvc := mkW_cr (by simp [nums])
theorem back_len (w : Web) (k : Wlk) : (backW w k).steps.length = k.steps.length := by
  rw [← List.length_map (f := cr), back_cr]
  simp
theorem back_back (w : Web) (k : Wlk) : (backW w (backW w k)).k = k.k ∧ (backW w (backW w k)).steps = k.steps := by
  have h1 : nums (backW w (backW w k)) = nums k := by
    rw [back_nums, back_nums, List.map_reverse, map_neg_neg, List.reverse_reverse]
  have h2 : (backW w (backW w k)).steps.map cr = k.steps.map cr := by
    rw [back_cr, back_cr, List.map_reverse, map_rvc_rvc, List.reverse_reverse]
  have h3 := wlk_ext (a := ⟨0, (backW w (backW w k)).k, (backW w (backW w k)).steps⟩) (b := ⟨0, k.k, k.steps⟩) rfl h1 h2
  simp only [Wlk.mk.injEq, true_and] at h3
  exact h3
theorem SOk.back {w : Web} {k : Wlk} (h : ∀ s ∈ k.steps, SOk w s) : ∀ s ∈ (backW w k).steps, SOk w s := by
  intro s hs
  have h1 : cr s ∈ (backW w k).steps.map cr := List.mem_map_of_mem hs
  rw [back_cr] at h1
  obtain ⟨c, hc, e⟩ := List.mem_map.mp h1
  obtain ⟨z, hz, rfl⟩ := List.mem_map.mp (List.mem_reverse.mp hc)
  have hz := h z hz
  obtain ⟨t, sd, k'⟩ := s
  simp only [rvc, cr, Prod.mk.injEq] at e
  obtain ⟨rfl, rfl⟩ := e
  have en := e_neg (w := w) (t := z.tie) (s := z.side) (k := k') (k' := z.k) hz.sd
  exact ⟨by have := hz.sd; show -z.side = 1 ∨ -z.side = -1; omega, by rw [en.1]; exact hz.q0, by rw [en.2.1]; exact hz.p0⟩
theorem act_of_plain {w : Web} {a : Wlk} (ha : ∀ s ∈ a.steps, SOk w s) {x : List Kp × Int} (hx : Red w x.1) : act w a x = act w (plainW w a) x := end_act a.room a.k a.steps ha x.1 x.2 hx
theorem plainW_iff {w : Web} {a b : Wlk} : plainW w a = plainW w b ↔ a.room = b.room ∧ goW w a = goW w b := by
  constructor
  · intro h
    refine ⟨(congrArg Wlk.room h : (plainW w a).room = (plainW w b).room), ?_⟩
    have h1 := congrArg nums h
    have h2 := congrArg (fun k : Wlk => k.steps.map cr) h
    unfold plainW endW at h1 h2
    rw [mkW_nums (by simp), mkW_nums (by simp)] at h1
    rw [mkW_cr (by simp), mkW_cr (by simp)] at h2
    obtain ⟨h3, h4⟩ := List.append_inj' h1 rfl
    simp only [List.cons.injEq, and_true] at h4
    have h5 : (goW w a).1 = (goW w b).1 := by
      revert h3 h2
      generalize (goW w a).1 = K
      generalize (goW w b).1 = L
      intro h3 h2
      induction K generalizing L with
      | nil => cases L with
        | nil => rfl
        | cons y L => simp at h3
      | cons x K ih => cases L with
        | nil => simp at h3
        | cons y L =>
          simp only [List.map_cons, List.cons.injEq] at h2 h3
          rw [ih L h3.2 h2.2]
          obtain ⟨r, t, s⟩ := x
          obtain ⟨r', t', s'⟩ := y
          simp only [Kp.c, Prod.mk.injEq] at h2 h3
          rw [h2.1, h3.1.1, h3.1.2]
    exact Prod.ext h5 h4
  · rintro ⟨h1, h2⟩
    unfold plainW
    rw [h1, h2]
theorem Ch.end {w : Web} {r h : Int} {l : List (Int × Int)} (H : Ch w r l h) : h = match l.getLast? with
  | some c => (w.e ⟨c.1, c.2, 0⟩).w
  | none => r := by
  cases H with
  | nil => rfl
  | snoc c _ _ => simp
theorem endR_ch {w : Web} {k : Wlk} {h : Int} (H : Ch w k.room (k.steps.map cr) h) : endR w k = h := by
  have e := H.end
  unfold endR
  rw [e, List.getLast?_map]
  cases k.steps.getLast? <;> rfl
theorem back_room {w : Web} {k : Wlk} : (backW w k).room = endR w k := rfl
theorem Ch.hd {w : Web} {r h : Int} {l : List (Int × Int)} (H : Ch w r l h) : ∀ c m, l = c :: m → (w.e ⟨c.1, c.2, 0⟩).v = r := by
  induction H with
  | nil => intro c m e; cases e
  | snoc c H hv ih =>
    rename_i l h
    intro d m e
    cases l with
    | nil =>
      simp only [List.nil_append, List.cons.injEq] at e
      obtain ⟨rfl, rfl⟩ := e
      rw [hv, H.end]
      rfl
    | cons a l =>
      simp only [List.cons_append, List.cons.injEq] at e
      obtain ⟨rfl, rfl⟩ := e
      exact ih a l rfl
end K
set_option Elab.async false
set_option maxRecDepth 100000
set_option linter.all false
set_option autoImplicit false
set_option maxHeartbeats 4000000
set_option Elab.async false
set_option maxRecDepth 100000
set_option linter.all false
set_option autoImplicit false
set_option maxHeartbeats 4000000
namespace K
open PySem L2 Dl
variable [TabF]
/-! ### shares -/
def eCr (w : Web) (c : Int × Int) : Tie := w.e ⟨c.1, c.2, 0⟩
def CsOk (w : Web) (cs : List (Int × Int)) : Prop := ∀ c ∈ cs, CrOk w c.1 c.2
theorem e_of {w : Web} {s : Stp} {x : Tie} (h : Web.at w s.tie x) : w.e s = rev x s.side := by
  unfold Web.e
  rw [h.tie]
theorem WK.cs {w : Web} {k : Wlk} (h : WK w k) : CsOk w (k.steps.map cr) := fun c hc => by
  obtain ⟨s, hs, rfl⟩ := List.mem_map.mp hc
  exact h.st s hs
end K
set_option Elab.async false
set_option maxRecDepth 100000
set_option linter.all false
set_option autoImplicit false
set_option maxHeartbeats 4000000
set_option Elab.async false
set_option maxRecDepth 100000
set_option linter.all false
set_option autoImplicit false
set_option maxHeartbeats 4000000
set_option Elab.async false
set_option maxRecDepth 100000
set_option linter.all false
set_option autoImplicit false
set_option maxHeartbeats 4000000
set_option Elab.async false
set_option maxRecDepth 100000
set_option linter.all false
set_option autoImplicit false
set_option maxHeartbeats 4000000
set_option Elab.async false
set_option maxRecDepth 100000
set_option linter.all false
set_option autoImplicit false
set_option maxHeartbeats 4000000
set_option Elab.async false
set_option maxRecDepth 100000
set_option linter.all false
set_option autoImplicit false
set_option maxHeartbeats 4000000
namespace K
open PySem L2 Dl
variable [TabF]
/-! ### moves -/
theorem emp_snoc {α : Type} {l : List α} {a : α} : (l ++ [a]).isEmpty = false := by simp
theorem endR_snoc {w : Web} {k : Wlk} {l : List Stp} {s : Stp} (h : k.steps = l ++ [s]) : endR w k = (w.e s).w := by
  unfold endR
  rw [h]
  simp
theorem eqf_nilT {xs : List Px} {P : Rv → Prop} (h : ∀ x ∈ xs, Shp 60 x) : eqD false (.tuple xs) (.tuple []) P = P (.d (.bool xs.isEmpty)) := by
  have h1 : SeqAt.shaped (.tuple xs) = true := (Shp.tup h).sh
  have h2 : SeqAt.shaped (.tuple []) = true := (Shp.tup (n := 60) (xs := []) (by simp)).sh
  have e : PyData.eqv (.tuple xs) (.tuple []) = xs.isEmpty := by cases xs <;> simp [PyData.eqv, PyData.eqvAll]
  simp only [eqD, h1, h2, e, true_and]
  simp
theorem eS_shp {l : List Stp} : ∀ x ∈ l.map eS, Shp 60 x := fun x hx => by
  obtain ⟨c, _, rfl⟩ := List.mem_map.mp hx
  exact .tup fun y hy => by
    simp only [List.mem_cons, List.not_mem_nil, or_false] at hy
    rcases hy with rfl | rfl | rfl <;> exact .int _
theorem WK.so {w : Web} {k : Wlk} (h : WK w k) : ∀ s ∈ k.steps, SOk w s := fun s hs => by
  obtain ⟨y, hy, he, hok⟩ := h.st.e h.wo hs
  exact ⟨(h.st s hs).2, hok.p0, hok.q0⟩
theorem crOk_neg {w : Web} {t s : Int} (h : CrOk w t s) : CrOk w t (-s) := ⟨h.1, by have := h.2; omega⟩
theorem take_last {α : Type} {l : List α} {i : Nat} {s : α} (h : l[i]? = some s) : l.take (i + 1) = l.take i ++ [s] := by
  rw [List.take_succ, h]
  rfl
theorem Ch.app {w : Web} {r h h' : Int} {l m : List (Int × Int)} (H : Ch w r l h) (G : Ch w h m h') : Ch w r (l ++ m) h' := by
  induction G with
  | nil => rw [List.append_nil]; exact H
  | snoc c G hv ih => rw [← List.append_assoc]; exact .snoc c ih hv
def joinW (a b : Wlk) : Wlk := match a.steps.getLast? with
  | none => ⟨a.room, a.k + b.k, b.steps⟩
  | some s => ⟨a.room, a.k, a.steps.dropLast ++ [⟨s.tie, s.side, s.k + b.k⟩] ++ b.steps⟩
theorem joinW_nil {a b : Wlk} (h : a.steps = []) : joinW a b = ⟨a.room, a.k + b.k, b.steps⟩ := by
  unfold joinW
  rw [h]
  rfl
theorem joinW_snoc {a b : Wlk} {l : List Stp} {s : Stp} (h : a.steps = l ++ [s]) : joinW a b = ⟨a.room, a.k, l ++ [⟨s.tie, s.side, s.k + b.k⟩] ++ b.steps⟩ := by
  unfold joinW
  rw [h]
  simp
theorem joinW_cr (a b : Wlk) : (joinW a b).steps.map cr = a.steps.map cr ++ b.steps.map cr := by
  by_cases hk : a.steps = []
  · rw [joinW_nil hk, hk]
    rfl
  · obtain ⟨l, s, hl⟩ : ∃ l s, a.steps = l ++ [s] := ⟨_, _, (List.dropLast_concat_getLast hk).symm⟩
    rw [joinW_snoc hl, hl]
    simp [cr]
theorem joinW_room (a b : Wlk) : (joinW a b).room = a.room := by
  unfold joinW
  split <;> rfl
def FitC (w : Web) (r : Int) (cs : List (Int × Int)) (h : Int) : Prop := WebOk w 1000 ∧ (∀ c ∈ cs, CrOk w c.1 c.2) ∧ cs.length ≤ 1000 ∧ Ch w r cs h
theorem FitC.wk {w : Web} {k : Wlk} {r h : Int} {cs : List (Int × Int)} (F : FitC w r cs h) (e : k.steps.map cr = cs) : WK w k := by
  subst e
  exact ⟨F.1, fun s hs => F.2.1 (cr s) (List.mem_map_of_mem hs), by have := F.2.2.1; simpa using this⟩
theorem FitC.app {w : Web} {r h h' : Int} {cs ds : List (Int × Int)} (F : FitC w r cs h) (G : FitC w h ds h') (hl : cs.length + ds.length ≤ 1000) : FitC w r (cs ++ ds) h' :=
  ⟨F.1, fun c hc => (List.mem_append.mp hc).elim (F.2.1 c) (G.2.1 c), by rw [List.length_append]; exact hl, F.2.2.2.app G.2.2.2⟩
inductive Mv where
  | carry (i : Nat) (m : Int)
  | strike (i : Nat)
  | put (i : Nat) (t s a : Int)
def crs (k : Wlk) : List (Int × Int) := k.steps.map cr
def Wlk.n (k : Wlk) (i : Nat) : Int := (nums k).getD i 0
def Wlk.c (k : Wlk) (i : Nat) : Int × Int := (crs k).getD i (0, 0)
def app (w : Web) (k : Wlk) : Mv → Wlk
  | .carry i m => mkW k.room (((nums k).set i (k.n i - (eCr w (k.c i)).p * m)).set (i + 1) (k.n (i + 1) + (eCr w (k.c i)).q * m)) (crs k)
  | .strike i => mkW k.room ((nums k).take i ++ [k.n i + k.n (i + 2)] ++ (nums k).drop (i + 3)) ((crs k).take i ++ (crs k).drop (i + 2))
  | .put i t s a => mkW k.room ((nums k).take i ++ [a, 0, k.n i - a] ++ (nums k).drop (i + 1)) ((crs k).take i ++ [(t, s), (t, -s)] ++ (crs k).drop i)
def Good (w : Web) (k : Wlk) : Mv → Prop
  | .carry i m => i < k.steps.length ∧ m.natAbs ≤ 3
  | .strike i => i + 1 < k.steps.length ∧ k.n (i + 1) = 0 ∧ k.c i = rvc (k.c (i + 1))
  | .put i t s a => i ≤ k.steps.length ∧ CrOk w t s ∧ (w.e ⟨t, s, 0⟩).v = endR w ⟨k.room, k.k, k.steps.take i⟩ ∧ a.natAbs ≤ 4
theorem crs_len (k : Wlk) : (crs k).length = k.steps.length := List.length_map ..
theorem app_nums {w : Web} {k : Wlk} {mv : Mv} (h : Good w k mv) : nums (app w k mv) = match mv with
    | .carry i m => ((nums k).set i (k.n i - (eCr w (k.c i)).p * m)).set (i + 1) (k.n (i + 1) + (eCr w (k.c i)).q * m)
    | .strike i => (nums k).take i ++ [k.n i + k.n (i + 2)] ++ (nums k).drop (i + 3)
    | .put i t s a => (nums k).take i ++ [a, 0, k.n i - a] ++ (nums k).drop (i + 1) := by
  have h1 := nums_len k
  have h2 := crs_len k
  cases mv with
  | carry i m => exact mkW_nums (by simp [h1, h2])
  | strike i =>
    obtain ⟨h3, _⟩ := h
    exact mkW_nums (by simp [h1, h2]; omega)
  | put i t s a =>
    obtain ⟨h3, _⟩ := h
    exact mkW_nums (by simp [h1, h2]; omega)
theorem app_cr {w : Web} {k : Wlk} {mv : Mv} (h : Good w k mv) : (app w k mv).steps.map cr = match mv with
    | .carry i m => crs k
    | .strike i => (crs k).take i ++ (crs k).drop (i + 2)
    | .put i t s a => (crs k).take i ++ [(t, s), (t, -s)] ++ (crs k).drop i := by
  have h1 := nums_len k
  have h2 := crs_len k
  cases mv with
  | carry i m => exact mkW_cr (by simp [h1, h2])
  | strike i =>
    obtain ⟨h3, _⟩ := h
    exact mkW_cr (by simp [h1, h2]; omega)
  | put i t s a =>
    obtain ⟨h3, _⟩ := h
    exact mkW_cr (by simp [h1, h2]; omega)
theorem app_room (w : Web) (k : Wlk) (mv : Mv) : (app w k mv).room = k.room := by cases mv <;> rfl
theorem Ch.inv {w : Web} {r h : Int} {l : List (Int × Int)} {c : Int × Int} (H : Ch w r (l ++ [c]) h) : Ch w r l (eCr w c).v ∧ h = (eCr w c).w := by
  generalize e : l ++ [c] = m at H
  cases H with
  | nil => simp at e
  | snoc d H hv =>
    obtain ⟨e1, e2⟩ := List.append_inj' e rfl
    simp only [List.cons.injEq, and_true] at e2
    subst e1 e2
    refine ⟨?_, rfl⟩
    show Ch w r l (w.e ⟨c.1, c.2, 0⟩).v
    rw [hv]
    exact H
theorem Ch.split {w : Web} {r : Int} {l : List (Int × Int)} : ∀ (m : List (Int × Int)) (h : Int), Ch w r (l ++ m) h → ∃ h1, Ch w r l h1 ∧ Ch w h1 m h := by
  intro m
  refine snocInd (P := fun m => ∀ (h : Int), Ch w r (l ++ m) h → ∃ h1, Ch w r l h1 ∧ Ch w h1 m h) (fun h H => ⟨h, by simpa using H, .nil⟩) (fun m c ih h H => ?_) m
  rw [← List.append_assoc] at H
  obtain ⟨H1, e⟩ := H.inv
  obtain ⟨h1, a, b⟩ := ih _ H1
  subst e
  exact ⟨h1, a, .snoc c b rfl⟩
theorem Ch.two {w : Web} {r h : Int} {c d : Int × Int} (H : Ch w r [c, d] h) : r = (eCr w c).v ∧ (eCr w c).w = (eCr w d).v ∧ h = (eCr w d).w := by
  obtain ⟨H1, e⟩ := Ch.inv (l := [c]) H
  obtain ⟨H2, e2⟩ := Ch.inv (l := []) H1
  have := H2.end
  exact ⟨this.symm, e2.symm, e⟩
theorem eCr_rvc {w : Web} {c : Int × Int} (h : c.2 = 1 ∨ c.2 = -1) : (eCr w (rvc c)).v = (eCr w c).w ∧ (eCr w (rvc c)).w = (eCr w c).v :=
  ⟨(e_neg (w := w) (t := c.1) (s := c.2) (k := 0) (k' := 0) h).2.2.1, (e_neg (w := w) (t := c.1) (s := c.2) (k := 0) (k' := 0) h).2.2.2⟩
theorem getD_some {α : Type} {l : List α} {i : Nat} {d : α} (h : i < l.length) : l[i]? = some (l.getD i d) := by simp [h]
theorem drop_two {α : Type} {l : List α} {i : Nat} {d : α} (h : i + 1 < l.length) : l = l.take i ++ ([l.getD i d, l.getD (i + 1) d] ++ l.drop (i + 2)) := by
  conv => lhs; rw [← List.take_append_drop i l]
  congr 1
  rw [List.drop_eq_getElem_cons (show i < l.length by omega), List.drop_eq_getElem_cons h]
  simp [h, show i < l.length by omega]
theorem app_fit {w : Web} {k : Wlk} {mv : Mv} {h : Int} (F : FitC w k.room (crs k) h) (g : Good w k mv) (hl : k.steps.length ≤ 100) : FitC w (app w k mv).room (crs (app w k mv)) h := by
  obtain ⟨wo, hc, hn, H⟩ := F
  have h2 := crs_len k
  rw [app_room]
  show FitC w k.room ((app w k mv).steps.map cr) h
  rw [app_cr g]
  cases mv with
  | carry i m => exact ⟨wo, hc, hn, H⟩
  | strike i =>
    obtain ⟨g1, g2, g3⟩ := g
    refine ⟨wo, fun c hcm => ?_, by simp; omega, ?_⟩
    · rcases List.mem_append.mp hcm with q | q
      · exact hc c (List.mem_of_mem_take q)
      · exact hc c (List.mem_of_mem_drop q)
    · rw [drop_two (l := crs k) (i := i) (d := (0, 0)) (by omega)] at H
      obtain ⟨h1, H1, H2⟩ := Ch.split _ _ H
      obtain ⟨h3, H3, H4⟩ := Ch.split (l := [_, _]) _ _ H2
      obtain ⟨e1, e2, e3⟩ := H3.two
      have hd : CrOk w (k.c (i + 1)).1 (k.c (i + 1)).2 := hc _ (List.mem_of_getElem? (getD_some (l := crs k) (d := (0, 0)) (by omega)))
      have er := eCr_rvc (w := w) (c := k.c (i + 1)) hd.2
      rw [← g3] at er
      have : h1 = h3 := e1.trans (er.1.trans e3.symm)
      subst this
      exact H1.app H4
  | put i t s a =>
    obtain ⟨g1, g2, g3, g4⟩ := g
    refine ⟨wo, fun c hcm => ?_, by simp; omega, ?_⟩
    · rcases List.mem_append.mp hcm with q | q
      · rcases List.mem_append.mp q with q | q
        · exact hc c (List.mem_of_mem_take q)
        · simp only [List.mem_cons, List.not_mem_nil, or_false] at q
          rcases q with rfl | rfl
          · exact g2
          · exact crOk_neg g2
      · exact hc c (List.mem_of_mem_drop q)
    · rw [← List.take_append_drop i (crs k)] at H
      obtain ⟨h1, H1, H2⟩ := Ch.split _ _ H
      have e1 : endR w ⟨k.room, k.k, k.steps.take i⟩ = h1 := endR_ch (k := ⟨k.room, k.k, k.steps.take i⟩) (by
        show Ch w k.room ((k.steps.take i).map cr) h1
        rw [List.map_take]
        exact H1)
      rw [e1] at g3
      have er := eCr_rvc (w := w) (c := (t, s)) g2.2
      have H3 : Ch w k.room ((crs k).take i ++ [(t, s)]) (eCr w (t, s)).w := .snoc (t, s) H1 g3
      have H4 : Ch w k.room ((crs k).take i ++ [(t, s)] ++ [(t, -s)]) (eCr w (t, -s)).w := .snoc (t, -s) H3 er.1
      have e2 : (eCr w (t, -s)).w = h1 := er.2.trans g3
      rw [e2] at H4
      have := H4.app H2
      simpa using this
theorem c_at {k : Wlk} {i : Nat} (h : i < k.steps.length) : (crs k)[i]? = some (k.c i) := getD_some (by rw [crs_len]; omega)
def goc (w : Web) (a : List Kp × Int) (c : Int × Int) : List Kp × Int := go1 w a ⟨c.1, c.2, 0⟩
def goL (w : Web) : List Kp × Int → List Int → List (Int × Int) → List Kp × Int
  | a, n :: ns, c :: cs => goL w (goc w (a.1, a.2 + n) c) ns cs
  | a, n :: _, [] => (a.1, a.2 + n)
  | a, [], _ => a
theorem go1_goc {w : Web} {a : List Kp × Int} {s : Stp} : go1 w a s = ((goc w a (cr s)).1, (goc w a (cr s)).2 + s.k) := by
  have := go1_add (w := w) (a := a) (t := s.tie) (s := s.side) (k := 0) (d := s.k)
  rw [Int.zero_add] at this
  exact this
theorem goL_fold {w : Web} : ∀ (l : List Stp) (K : List Kp) (m n : Int), l.foldl (go1 w) (K, m + n) = goL w (K, m) (n :: l.map Stp.k) (l.map cr)
  | [], K, m, n => rfl
  | s :: l, K, m, n => by
    simp only [List.foldl_cons, List.map_cons, goL]
    rw [go1_goc, goL_fold l]
theorem goW_goL (w : Web) (k : Wlk) : goW w k = goL w ([], 0) (nums k) (crs k) := by
  unfold goW nums crs
  rw [← goL_fold, Int.zero_add]
def goP (w : Web) : List Kp × Int → List Int → List (Int × Int) → List Kp × Int
  | a, n :: ns, c :: cs => goP w (goc w (a.1, a.2 + n) c) ns cs
  | a, _, _ => a
theorem goL_app {w : Web} : ∀ (ns : List Int) (cs : List (Int × Int)) (a : List Kp × Int) (ms : List Int) (ds : List (Int × Int)), ns.length = cs.length → goL w a (ns ++ ms) (cs ++ ds) = goL w (goP w a ns cs) ms ds
  | [], [], a, ms, ds, _ => by simp [goP]
  | n :: ns, c :: cs, a, ms, ds, h => by
    simp only [List.cons_append, goL, goP]
    exact goL_app ns cs _ ms ds (by simpa using h)
  | [], _ :: _, _, _, _, h => by simp at h
  | _ :: _, [], _, _, _, h => by simp at h
theorem goP_red {w : Web} : ∀ (ns : List Int) (cs : List (Int × Int)) (a : List Kp × Int), (∀ c ∈ cs, (eCr w c).p ≠ 0) → Red w a.1 → Red w (goP w a ns cs).1
  | n :: ns, c :: cs, a, h, r => goP_red ns cs _ (fun d hd => h d (List.mem_cons_of_mem _ hd)) (Red.go (a := (a.1, a.2 + n)) (s := ⟨c.1, c.2, 0⟩) r (h c List.mem_cons_self))
  | [], _, a, _, r => by unfold goP; exact r
  | _ :: _, [], a, _, r => by unfold goP; exact r
theorem goL_carry {w : Web} {a : List Kp × Int} {n n' d : Int} {ns : List Int} {c : Int × Int} {cs : List (Int × Int)} (hp : (eCr w c).p ≠ 0) : goL w a ((n - (eCr w c).p * d) :: (n' + (eCr w c).q * d) :: ns) (c :: cs) = goL w a (n :: n' :: ns) (c :: cs) := by
  have h1 : goc w (a.1, a.2 + (n - (eCr w c).p * d)) c = ((goc w (a.1, a.2 + n) c).1, (goc w (a.1, a.2 + n) c).2 - (eCr w c).q * d) := by
    have h2 := go1_carry (w := w) (L := a.1) (n := a.2 + n) (m := -d) (s := ⟨c.1, c.2, 0⟩) hp
    rw [show a.2 + (n - (eCr w c).p * d) = a.2 + n + (w.e ⟨c.1, c.2, 0⟩).p * -d by show _ = a.2 + n + (eCr w c).p * -d; rw [Int.mul_neg]; omega]
    unfold goc
    rw [h2, go1_add]
    show (_, _ + (eCr w c).q * -d) = (_, _ - (eCr w c).q * d)
    rw [Int.mul_neg]
    rfl
  have h3 : ∀ (K : List Kp) (x y : Int) (cs : List (Int × Int)), goL w (K, x - y) ((n' + y) :: ns) cs = goL w (K, x) (n' :: ns) cs := fun K x y cs => by
    cases cs with
    | nil => show (K, x - y + (n' + y)) = (K, x + n'); congr 1; omega
    | cons d cs =>
      show goL w (goc w (K, x - y + (n' + y)) d) ns cs = goL w (goc w (K, x + n') d) ns cs
      rw [show x - y + (n' + y) = x + n' by omega]
  simp only [goL]
  rw [h1]
  exact h3 _ _ _ cs
theorem goL_strike {w : Web} {a : List Kp × Int} {n n2 : Int} {ns : List Int} {c : Int × Int} {cs : List (Int × Int)} (hr : Red w a.1) (h : SOk w ⟨c.1, c.2, 0⟩) : goL w a (n :: 0 :: n2 :: ns) (c :: rvc c :: cs) = goL w a ((n + n2) :: ns) cs := by
  have h1 := go1_strike (n := a.2 + n) (k := 0) hr h
  have h2 : goc w ((goc w (a.1, a.2 + n) c).1, (goc w (a.1, a.2 + n) c).2 + 0) (rvc c) = (a.1, a.2 + n) := by
    rw [Int.add_zero]
    rw [Int.add_zero] at h1
    exact h1
  simp only [goL]
  rw [h2]
  cases cs with
  | nil => show (a.1, a.2 + n + n2) = (a.1, a.2 + (n + n2)); rw [Int.add_assoc]
  | cons d cs =>
    show goL w (goc w (a.1, a.2 + n + n2) d) ns cs = goL w (goc w (a.1, a.2 + (n + n2)) d) ns cs
    rw [Int.add_assoc]
theorem split_at {α : Type} {l : List α} {i : Nat} {d : α} (h : i < l.length) : l = l.take i ++ l.getD i d :: l.drop (i + 1) := by
  conv => lhs; rw [← List.take_append_drop i l, List.drop_eq_getElem_cons h]
  simp [h]
theorem drop_cons {α : Type} {l : List α} {i : Nat} {d : α} (h : i < l.length) : l.drop i = l.getD i d :: l.drop (i + 1) := by
  rw [List.drop_eq_getElem_cons h]
  simp [h]
theorem app_go {w : Web} {k : Wlk} {mv : Mv} (g : Good w k mv) (hw : WebOk w 1000) (hs : ∀ s ∈ k.steps, SOk w s) : goW w (app w k mv) = goW w k := by
  have hnl := nums_len k
  have hcl := crs_len k
  have hcp : ∀ c ∈ crs k, SOk w ⟨c.1, c.2, 0⟩ := fun c hc => by
    obtain ⟨s, hsm, rfl⟩ := List.mem_map.mp hc
    have := hs s hsm
    exact ⟨this.sd, this.p0, this.q0⟩
  have htk : ∀ i c, c ∈ (crs k).take i → (eCr w c).p ≠ 0 := fun i c hc => (hcp c (List.mem_of_mem_take hc)).p0
  rw [goW_goL, goW_goL]
  show goL w ([], 0) (nums (app w k mv)) ((app w k mv).steps.map cr) = _
  rw [app_nums g, app_cr g]
  cases mv with
  | carry i m =>
    obtain ⟨g1, g2⟩ := g
    show goL w ([], 0) (((nums k).set i (k.n i - (eCr w (k.c i)).p * m)).set (i + 1) (k.n (i + 1) + (eCr w (k.c i)).q * m)) (crs k) = _
    have e1 : nums k = (nums k).take i ++ k.n i :: k.n (i + 1) :: (nums k).drop (i + 2) := by
      conv => lhs; rw [← List.take_append_drop i (nums k), drop_cons (d := 0) (show i < (nums k).length by omega), drop_cons (d := 0) (show i + 1 < (nums k).length by omega)]
      rfl
    have e2 : crs k = (crs k).take i ++ k.c i :: (crs k).drop (i + 1) := split_at (d := (0, 0)) (by omega)
    have e3 : ∀ x y : Int, ((nums k).set i x).set (i + 1) y = (nums k).take i ++ x :: y :: (nums k).drop (i + 2) := fun x y => by
      apply List.ext_getElem?
      intro j
      have hl : ((nums k).take i).length = i := by simp; omega
      rcases Nat.lt_trichotomy j i with hj | rfl | hj
      · rw [List.getElem?_set_ne (by omega), List.getElem?_set_ne (by omega), List.getElem?_append_left (by omega), List.getElem?_take_of_lt hj]
      · rw [List.getElem?_set_ne (by omega), List.getElem?_set_self (by omega), List.getElem?_append_right (by omega), hl, Nat.sub_self]
        rfl
      · rw [List.getElem?_append_right (by omega), hl]
        obtain ⟨d, rfl⟩ : ∃ d, j = i + 1 + d := ⟨j - (i + 1), by omega⟩
        rw [show i + 1 + d - i = d + 1 by omega]
        cases d with
        | zero => rw [Nat.add_zero, List.getElem?_set_self (by rw [List.length_set]; omega)]; rfl
        | succ d =>
          rw [List.getElem?_set_ne (by omega), List.getElem?_set_ne (by omega)]
          show _ = ((nums k).drop (i + 2))[d]?
          rw [List.getElem?_drop]
          congr 1
          omega
    rw [e3]
    have hln : ((nums k).take i).length = ((crs k).take i).length := by simp; omega
    conv => rhs; rw [e1, e2]
    conv => lhs; rw [e2]
    rw [goL_app _ _ _ _ _ hln, goL_app _ _ _ _ _ hln]
    exact goL_carry (hcp _ (List.mem_of_getElem? (c_at g1))).p0
  | strike i =>
    obtain ⟨g1, g2, g3⟩ := g
    show goL w ([], 0) ((nums k).take i ++ [k.n i + k.n (i + 2)] ++ (nums k).drop (i + 3)) ((crs k).take i ++ (crs k).drop (i + 2)) = _
    have e1 : nums k = (nums k).take i ++ k.n i :: k.n (i + 1) :: k.n (i + 2) :: (nums k).drop (i + 3) := by
      conv => lhs; rw [← List.take_append_drop i (nums k), drop_cons (d := 0) (show i < (nums k).length by omega), drop_cons (d := 0) (show i + 1 < (nums k).length by omega), drop_cons (d := 0) (show i + 1 + 1 < (nums k).length by omega)]
      rfl
    have e2 : crs k = (crs k).take i ++ k.c i :: k.c (i + 1) :: (crs k).drop (i + 2) := by
      conv => lhs; rw [← List.take_append_drop i (crs k), drop_cons (d := (0, 0)) (show i < (crs k).length by omega), drop_cons (d := (0, 0)) (show i + 1 < (crs k).length by omega)]
      rfl
    have hln : ((nums k).take i).length = ((crs k).take i).length := by simp; omega
    have e4 : k.c (i + 1) = rvc (k.c i) := by
      rw [g3]
      unfold rvc
      simp
    conv => rhs; rw [e1, e2]
    rw [List.append_assoc, goL_app _ _ _ _ _ hln, goL_app _ _ _ _ _ hln, g2, e4]
    exact (goL_strike (goP_red _ _ _ (htk i) .nil) (hcp _ (List.mem_of_getElem? (c_at (by omega))))).symm
  | put i t s a =>
    obtain ⟨g1, g2, g3, g4⟩ := g
    show goL w ([], 0) ((nums k).take i ++ [a, 0, k.n i - a] ++ (nums k).drop (i + 1)) ((crs k).take i ++ [(t, s), (t, -s)] ++ (crs k).drop i) = _
    have e1 : nums k = (nums k).take i ++ k.n i :: (nums k).drop (i + 1) := split_at (d := 0) (by omega)
    have e2 : crs k = (crs k).take i ++ (crs k).drop i := (List.take_append_drop i (crs k)).symm
    have hln : ((nums k).take i).length = ((crs k).take i).length := by simp; omega
    have so : SOk w ⟨t, s, 0⟩ := by
      obtain ⟨y, hy⟩ := g2.1
      have he : w.e ⟨t, s, 0⟩ = rev y s := e_of (s := ⟨t, s, 0⟩) hy
      have ok := (hw.at hy).rev s
      exact ⟨g2.2, by rw [he]; exact ok.p0, by rw [he]; exact ok.q0⟩
    conv => rhs; rw [e1, e2]
    rw [List.append_assoc, List.append_assoc, goL_app _ _ _ _ _ hln, goL_app _ _ _ _ _ hln]
    have := goL_strike (w := w) (a := goP w ([], 0) ((nums k).take i) ((crs k).take i)) (n := a) (n2 := k.n i - a) (ns := (nums k).drop (i + 1)) (c := (t, s)) (cs := (crs k).drop i) (goP_red _ _ _ (htk i) .nil) so
    rw [show a + (k.n i - a) = k.n i by omega] at this
    exact this
theorem app_plain {w : Web} {k : Wlk} {mv : Mv} (g : Good w k mv) (h : WK w k) : plainW w (app w k mv) = plainW w k := plainW_iff.mpr ⟨app_room w k mv, app_go g h.wo h.so⟩
theorem go_cr {w : Web} (l : List Stp) (n0 : Int) : ∀ x ∈ (l.foldl (go1 w) ([], n0)).1, x.c ∈ l.map cr := by
  refine snocInd (P := fun l => ∀ x ∈ (l.foldl (go1 w) ([], n0)).1, x.c ∈ l.map cr) (by simp) (fun l s ih => ?_) l
  rw [List.foldl_append, List.map_append]
  simp only [List.foldl_cons, List.foldl_nil]
  intro x hx
  unfold go1 at hx
  split at hx
  · exact List.mem_append_left _ (ih x (List.dropLast_subset _ hx))
  · rcases List.mem_append.mp hx with hx | hx
    · exact List.mem_append_left _ (ih x hx)
    · simp only [List.mem_cons, List.not_mem_nil, or_false] at hx
      subst hx
      exact List.mem_append_right _ (by simp [Kp.c, cr])
theorem plain_wk {w : Web} {k : Wlk} (h : WK w k) : WK w (plainW w k) := by
  refine ⟨h.wo, fun s hs => ?_, ?_⟩
  · have h1 : cr s ∈ (plainW w k).steps.map cr := List.mem_map_of_mem hs
    unfold plainW endW at h1
    rw [mkW_cr (by simp)] at h1
    obtain ⟨x, hx, e⟩ := List.mem_map.mp h1
    have h2 := go_cr k.steps k.k x hx
    obtain ⟨z, hz, e2⟩ := List.mem_map.mp h2
    have := h.st z hz
    have e3 : cr z = cr s := e2.trans e
    simp only [cr, Prod.mk.injEq] at e3
    rw [e3.1, e3.2] at this
    exact this
  · have h1 := goW_len w k
    have h2 := endW_len k.room (goW w k)
    show (endW k.room (goW w k)).steps.length ≤ 1000
    have := h.ln
    omega
theorem WebOk.up {w : Web} {a b : Int} (h : WebOk w a) (l : a ≤ b) : WebOk w b := ⟨h.r0, fun t ht => by
  have := h.tie t ht
  exact ⟨this.v0, this.v1, this.w0, this.w1, this.p0, Int.le_trans this.p1 l, this.q0, Int.le_trans this.q1 l⟩⟩
end K
set_option Elab.async false
set_option maxRecDepth 100000
set_option linter.all false
set_option autoImplicit false
set_option maxHeartbeats 4000000
namespace K
open PySem L2 Dl
variable [TabF]
/-! ### the same walk, spelled otherwise -/
/-- what stays however a walk is spelled -/
structure Alike (w : Web) (k : Wlk) (h : Int) (n : Nat) (k' : Wlk) : Prop where
  ft : FitC w k'.room (crs k') h
  ln : k'.steps.length ≤ k.steps.length + 2 * n
  pl : plainW w k' = plainW w k
  rm : k'.room = k.room
theorem Alike.app {w : Web} {k k1 : Wlk} {h : Int} {n d : Nat} {mv : Mv} (A : Alike w k h n k1) (g : Good w k1 mv) (hl : k1.steps.length ≤ 100) (hd : (app w k1 mv).steps.length ≤ k.steps.length + 2 * d) : Alike w k h d (app w k1 mv) :=
  ⟨app_fit A.ft g hl, hd, by rw [app_plain g (A.ft.wk (k := k1) rfl), A.pl], by rw [app_room, A.rm]⟩
end K
set_option Elab.async false
set_option maxRecDepth 100000
set_option linter.all false
set_option autoImplicit false
set_option maxHeartbeats 4000000
namespace K
open PySem L2 Dl
variable [TabF]
/-! ### crossings, ends, joins -/
abbrev C_law_end : Cn := fun rs g Q => ∃ w k, rs = [.d (eW w), .d (eK k)] ∧ StepsOk w k.steps ∧ Q (.d (.int (endR w k))) g
def w_law_end : WS :=
  (sSeq (sIf (wB (eSc (eqD false) (eIxN 1 (eC (.int 2))) (eTup aNil))) (sRet (eIxN 1 (eC (.int 0)))) sNil)
  (sSeq (sAsg (eIx (eIxN 1 (eC (.int 2))) (eUn negD (eC (.int 1)))) (gT 3 (gsCons (gN 2) (gsCons (gN 3) (gsCons (gN 4) gsNil)))))
  (sRet (eIx (eCallP C_law_ends (aCons (eName 0) (aCons (eName 2) (aCons (eName 3) aNil)))) (eC (.int 1))))))
theorem len_law_end (rs : List Rv) (g : Option Nat) (Q : Rv → Option Nat → Prop) (h : C_law_end rs g Q) : rs.length = 2 := by
  obtain ⟨_, _, rfl, _⟩ := h
  rfl
theorem spec_law_end (rs : List Rv) (g : Option Nat) (Q : Rv → Option Nat → Prop) (h : C_law_end rs g Q) : w_law_end (startC 5 rs g) (endP Q) fun _ _ => False := by
  obtain ⟨w, k, rfl, hs, hQ⟩ := h
  simp -dsimp only [rQ_, w_law_end, eK]
  refine ⟨by decide, ?_⟩
  rw [eqf_nilT eS_shp]
  try simp -dsimp only [rQ_]
  by_cases hk : k.steps = []
  · simp -dsimp only [rQ_, hk, List.isEmpty_nil]
    simpa [endR, hk] using hQ
  · obtain ⟨l, s, hl⟩ : ∃ l s, k.steps = l ++ [s] := ⟨_, _, (List.dropLast_concat_getLast hk).symm⟩
    rw [endR_snoc hl] at hQ
    obtain ⟨x, hx⟩ := (hs s (by rw [hl]; simp)).1
    rw [e_of hx] at hQ
    simp -dsimp only [rQ_, hl, List.map_append, emp_snoc, eS]
    refine ⟨w, s.tie, s.side, x, rfl, hx, ?_⟩
    simp -dsimp only [rQ_, eT]
    exact hQ
abbrev C_law_joined : Cn := fun rs g Q => ∃ a b, rs = [.d (eK a), .d (eK b)] ∧ a.steps.length + b.steps.length ≤ 1000 ∧ Q (.d (eK (joinW a b))) g
def w_law_joined : WS :=
  (sSeq (sIf (wB (eSc (eqD false) (eIxN 0 (eC (.int 2))) (eTup aNil))) (sRet (eTup (aCons (eIxN 0 (eC (.int 0))) (aCons (eOp addD (eIxN 0 (eC (.int 1))) (eIxN 1 (eC (.int 1)))) (aCons (eIxN 1 (eC (.int 2))) aNil))))) sNil)
  (sSeq (sAsg (eIx (eIxN 0 (eC (.int 2))) (eUn negD (eC (.int 1)))) (gT 3 (gsCons (gN 2) (gsCons (gN 3) (gsCons (gN 4) gsNil)))))
  (sRet (eTup (aCons (eIxN 0 (eC (.int 0))) (aCons (eIxN 0 (eC (.int 1))) (aCons (eOp addD (eOp addD (eSl (eIxN 0 (eC (.int 2))) oNone (oSome (eUn negD (eC (.int 1))))) (eTup (aCons (eTup (aCons (eName 2) (aCons (eName 3) (aCons (eAddN 4 (eIxN 1 (eC (.int 1)))) aNil)))) aNil))) (eIxN 1 (eC (.int 2)))) aNil)))))))
theorem len_law_joined (rs : List Rv) (g : Option Nat) (Q : Rv → Option Nat → Prop) (h : C_law_joined rs g Q) : rs.length = 2 := by
  obtain ⟨_, _, rfl, _⟩ := h
  rfl
theorem spec_law_joined (rs : List Rv) (g : Option Nat) (Q : Rv → Option Nat → Prop) (h : C_law_joined rs g Q) : w_law_joined (startC 5 rs g) (endP Q) fun _ _ => False := by
  obtain ⟨a, b, rfl, hl, hQ⟩ := h
  simp -dsimp only [rQ_, w_law_joined, eK]
  refine ⟨by decide, ?_⟩
  rw [eqf_nilT eS_shp]
  try simp -dsimp only [rQ_]
  by_cases hk : a.steps = []
  · rw [joinW_nil hk] at hQ
    simp -dsimp only [rQ_, hk, List.isEmpty_nil]
    exact ⟨by decide, hQ⟩
  · obtain ⟨l, s, he⟩ : ∃ l s, a.steps = l ++ [s] := ⟨_, _, (List.dropLast_concat_getLast hk).symm⟩
    rw [joinW_snoc he] at hQ
    have hl2 : l.length + 1 + b.steps.length ≤ 1000 := by rw [he] at hl; simpa using hl
    simp -dsimp only [rQ_, he, List.map_append, emp_snoc, eS]
    simp -dsimp only [rQ_, cut_last]
    refine ⟨by decide, by decide, by simp; omega, by simp; omega, by decide, ?_⟩
    simp only [eK, List.map_append, eS, List.map_cons, List.map_nil] at hQ
    simpa using hQ
/-! ### turns that go over leave the walk equal -/
end K
set_option Elab.async false
set_option maxRecDepth 100000
set_option linter.all false
set_option autoImplicit false
set_option maxHeartbeats 4000000
namespace K
open PySem L2 Dl
variable [TabF]
theorem log_pow2 {x : Int} {n : Nat} (h : x.natAbs ≤ 1000 ^ n) (hn : n ≤ 150) : x.natAbs.log2 < 1920 := by
  by_cases h0 : x.natAbs = 0
  · rw [h0]; decide
  refine (Nat.log2_lt h0).mpr (Nat.lt_of_le_of_lt h ?_)
  refine Nat.lt_of_le_of_lt (Nat.pow_le_pow_right (by decide) hn) ?_
  refine Nat.lt_of_lt_of_le (show 1000 ^ 150 < 2 ^ 1600 by decide +kernel) (Nat.pow_le_pow_right (by decide) (by decide))
end K
set_option Elab.async false
set_option maxRecDepth 100000
set_option linter.all false
set_option autoImplicit false
set_option maxHeartbeats 4000000
namespace K
open PySem L2 Dl
variable [TabF]
/-! ### tolls of the way back -/
def revc (cs : List (Int × Int)) : List (Int × Int) := cs.reverse.map rvc
theorem revc_snoc (cs : List (Int × Int)) (c : Int × Int) : revc (cs ++ [c]) = rvc c :: revc cs := by
  unfold revc
  rw [List.reverse_append]
  rfl
theorem CsOk.rev {w : Web} {cs : List (Int × Int)} (h : CsOk w cs) : CsOk w (revc cs) := fun c hc => by
  obtain ⟨d, hd, rfl⟩ := List.mem_map.mp hc
  exact crOk_neg (h d (List.mem_reverse.mp hd))
theorem cr_pq {w : Web} (wo : WebOk w 1000) {c : Int × Int} (h : CrOk w c.1 c.2) : (eCr w c).p ≠ 0 ∧ (eCr w c).q ≠ 0 ∧ (eCr w (rvc c)).p = (eCr w c).q ∧ (eCr w (rvc c)).q = (eCr w c).p := by
  obtain ⟨x, hx⟩ := h.1
  have ok := (wo.at hx).rev c.2
  have e : eCr w c = rev x c.2 := e_of (s := ⟨c.1, c.2, 0⟩) hx
  obtain ⟨e1, e2, _⟩ := e_neg (w := w) (t := c.1) (k := 0) (k' := 0) h.2
  refine ⟨by rw [e]; exact ok.p0, by rw [e]; exact ok.q0, e1, e2⟩
end K
set_option Elab.async false
set_option maxRecDepth 100000
set_option linter.all false
set_option autoImplicit false
set_option maxHeartbeats 4000000
set_option Elab.async false
set_option maxRecDepth 100000
set_option linter.all false
set_option autoImplicit false
set_option maxHeartbeats 4000000
set_option Elab.async false
set_option maxRecDepth 100000
set_option linter.all false
set_option autoImplicit false
set_option maxHeartbeats 4000000
set_option Elab.async false
set_option maxRecDepth 100000
set_option linter.all false
set_option autoImplicit false
set_option maxHeartbeats 4000000
set_option Elab.async false
set_option maxRecDepth 100000
set_option linter.all false
set_option autoImplicit false
set_option maxHeartbeats 4000000
namespace K
open PySem L2 Dl
variable [TabF]
/-! ### turns at one place, seen from another one -/
theorem back_inv {w : Web} {k : Wlk} (h : ∀ s ∈ k.steps, SOk w s) {z : List Kp × Int} (hz : Red w z.1) : act w k (act w (backW w k) z) = z := by
  have s2 := SOk.back h
  have := act_back (w := w) (backW w k).room (backW w k).k (backW w k).steps s2 z.1 z.2 hz
  obtain ⟨b1, b2⟩ := back_back w k
  unfold act at this ⊢
  have e1 : (backW w ⟨(backW w k).room, (backW w k).k, (backW w k).steps⟩).k = k.k := b1
  have e2 : (backW w ⟨(backW w k).room, (backW w k).k, (backW w k).steps⟩).steps = k.steps := b2
  rw [e1, e2] at this
  exact this
theorem act_red {w : Web} {k : Wlk} (h : ∀ s ∈ k.steps, SOk w s) {z : List Kp × Int} (hz : Red w z.1) : Red w (act w k z).1 := Red.fold (fun s hs => (h s hs).p0) hz
end K
set_option Elab.async false
set_option maxRecDepth 100000
set_option linter.all false
set_option autoImplicit false
set_option maxHeartbeats 4000000
set_option Elab.async false
set_option maxRecDepth 100000
set_option linter.all false
set_option autoImplicit false
set_option maxHeartbeats 4000000
set_option Elab.async false
set_option maxRecDepth 100000
set_option linter.all false
set_option autoImplicit false
set_option maxHeartbeats 4000000
set_option Elab.async false
set_option maxRecDepth 100000
set_option linter.all false
set_option autoImplicit false
set_option maxHeartbeats 4000000
namespace K
open PySem L2 Dl
variable [TabF]
/-! ### bounds; joined walks -/
abbrev Cnumbers_of : Cn := fun rs g Q => ∃ k : Wlk, rs = [.d (eK k)] ∧ k.steps.length ≤ 1000 ∧ Q (.own ((nums k).map .int)) g
def wnumbers_of : WS :=
  (sRet (eOp addD (eLst (aCons (eIxN 0 (eC (.int 1))) aNil)) (eLc (iTpl (eIxN 0 (eC (.int 2)))) (gN 1) wYes (eIxN 1 (eC (.int 2))) [1])))
theorem lennumbers_of (rs : List Rv) (g : Option Nat) (Q : Rv → Option Nat → Prop) (h : Cnumbers_of rs g Q) : rs.length = 1 := by
  obtain ⟨k, rfl, _⟩ := h
  rfl
theorem specnumbers_of (rs : List Rv) (g : Option Nat) (Q : Rv → Option Nat → Prop) (h : Cnumbers_of rs g Q) : wnumbers_of (startC 2 rs g) (endP Q) fun _ _ => False := by
  obtain ⟨k, rfl, hl, hQ⟩ := h
  simp -dsimp only [rQ_, wnumbers_of, eK]
  refine ⟨by decide, by simp [nown], ?_⟩
  refine lcW_mpa eS (fun s => .int s.k) _ (fun s hs R S hR => ?_) (by omega) ?_
  · simp -dsimp only [rQ_, Turn1, wipeE, eS]
    exact hR
  try simp -dsimp only [rQ_]
  unfold nums at hQ
  simp at hQ
  exact ⟨by simp; omega, hQ⟩
abbrev Cend_room : Cn := fun rs g Q => ∃ w k, rs = [.d (eW w), .d (eK k)] ∧ StepsOk w k.steps ∧ Q (.d (.int (endR w k))) g
def wend_room : WS :=
  (sSeq (sIf (wNot (wTru (eIxN 1 (eC (.int 2))))) (sRet (eIxN 1 (eC (.int 0)))) sNil)
  (sSeq (sAsg (eIx (eIxN 1 (eC (.int 2))) (eUn negD (eC (.int 1)))) (gT 3 (gsCons (gN 2) (gsCons (gN 3) (gsCons (gN 4) gsNil)))))
  (sRet (eIx (eCallP Cends_of (aCons (eName 0) (aCons (eName 2) (aCons (eName 3) aNil)))) (eC (.int 1))))))
theorem lenend_room (rs : List Rv) (g : Option Nat) (Q : Rv → Option Nat → Prop) (h : Cend_room rs g Q) : rs.length = 2 := by
  obtain ⟨_, _, rfl, _⟩ := h
  rfl
theorem specend_room (rs : List Rv) (g : Option Nat) (Q : Rv → Option Nat → Prop) (h : Cend_room rs g Q) : wend_room (startC 5 rs g) (endP Q) fun _ _ => False := by
  obtain ⟨w, k, rfl, hs, hQ⟩ := h
  simp -dsimp only [rQ_, wend_room, eK]
  by_cases hk : k.steps = []
  · simp -dsimp only [rQ_, hk, List.isEmpty_nil, Bool.not_true]
    simpa [endR, hk] using hQ
  · obtain ⟨l, s, hl⟩ : ∃ l s, k.steps = l ++ [s] := ⟨_, _, (List.dropLast_concat_getLast hk).symm⟩
    rw [endR_snoc hl] at hQ
    obtain ⟨x, hx⟩ := (hs s (by rw [hl]; simp)).1
    rw [e_of hx] at hQ
    simp -dsimp only [rQ_, hl, List.map_append, emp_snoc, Bool.not_false, eS]
    refine ⟨w, s.tie, s.side, x, rfl, hx, ?_⟩
    simp -dsimp only [rQ_, eT]
    exact hQ
def NB (B : Nat) (k : Wlk) : Prop := ∀ x ∈ nums k, x.natAbs ≤ B
theorem joinW_nums (a b : Wlk) : ∃ L x, nums a = L ++ [x] ∧ nums (joinW a b) = L ++ [x + b.k] ++ b.steps.map Stp.k ∧ L.length = a.steps.length := by
  obtain ⟨r, k, l⟩ := a
  rcases List.eq_nil_or_concat l with rfl | ⟨l, s, rfl⟩
  · exact ⟨[], k, rfl, by rw [joinW_nil rfl]; rfl, rfl⟩
  · rw [List.concat_eq_append]
    refine ⟨k :: l.map Stp.k, s.k, by simp [nums], ?_, by simp⟩
    rw [joinW_snoc rfl]
    simp [nums]
theorem joinW_act {w : Web} {a b : Wlk} {z : List Kp × Int} : act w (joinW a b) z = act w b (act w a z) := by
  obtain ⟨r, k, l⟩ := a
  rcases List.eq_nil_or_concat l with rfl | ⟨l, s, rfl⟩
  · rw [joinW_nil rfl]
    show b.steps.foldl (go1 w) (z.1, z.2 + (k + b.k)) = b.steps.foldl (go1 w) (z.1, z.2 + k + b.k)
    rw [Int.add_assoc]
  · rw [List.concat_eq_append, joinW_snoc rfl]
    unfold act
    simp only [List.foldl_append, List.foldl_cons, List.foldl_nil]
    rw [go1_add]
def joinL (k : Wlk) (ks : List Wlk) : Wlk := ks.foldl joinW k
theorem joinL_snoc (k : Wlk) (ks : List Wlk) (l : Wlk) : joinL k (ks ++ [l]) = joinW (joinL k ks) l := by
  unfold joinL
  rw [List.foldl_append]
  rfl
theorem joinW_len (a b : Wlk) : (joinW a b).steps.length = a.steps.length + b.steps.length := by
  rw [← List.length_map (f := cr), joinW_cr]
  simp
theorem joinL_room (k : Wlk) : ∀ ks, (joinL k ks).room = k.room := by
  refine snocInd (P := fun ks => (joinL k ks).room = k.room) rfl (fun ks l ih => ?_)
  rw [joinL_snoc, joinW_room, ih]
def lens (ks : List Wlk) : Nat := (ks.map fun k => k.steps.length).sum
theorem joinL_len (k : Wlk) : ∀ ks, (joinL k ks).steps.length = k.steps.length + lens ks := by
  refine snocInd (P := fun ks => (joinL k ks).steps.length = k.steps.length + lens ks) rfl (fun ks l ih => ?_)
  rw [joinL_snoc, joinW_len, ih]
  unfold lens
  simp
  omega
theorem lens_take (ks : List Wlk) (i : Nat) : lens (ks.take i) ≤ lens ks := by
  conv => rhs; rw [← List.take_append_drop i ks]
  unfold lens
  rw [List.map_append, List.sum_append]
  exact Nat.le_add_right _ _
theorem lens_mem {ks : List Wlk} {i : Nat} {l : Wlk} (h : ks[i]? = some l) : lens (ks.take i) + l.steps.length ≤ lens ks := by
  have := lens_take ks (i + 1)
  rw [take_last h] at this
  unfold lens at this ⊢
  simpa using this
abbrev Cjoined_of_any_size : Cn := fun rs g Q => ∃ k ks, rs = [.d (.list ((k :: ks).map eK))] ∧ k.steps.length + lens ks ≤ 900 ∧ ks.length ≤ 1000 ∧ Q (.d (eK (joinL k ks))) g
def wjoined_of_any_size : WS :=
  (sSeq (sAsg (eCallP Cnumbers_of (aCons (eIxN 0 (eC (.int 0))) aNil)) (gN 1))
  (sSeq (sAsg (eCallP Ccrossings_of (aCons (eIxN 0 (eC (.int 0))) aNil)) (gN 2))
  (sSeq (sFor (iLst (eSlN 0 (oSome (eC (.int 1))) oNone)) (gN 3)
  (sSeq (sSetIM 1 (fun i j => i + j) (eUn negD (eC (.int 1))) (eIxN 3 (eC (.int 1))))
  (sSeq (sExp (eExt 1 (eSl (eCallP Cnumbers_of (aCons (eName 3) aNil)) (oSome (eC (.int 1))) oNone)))
  (sExp (eExt 2 (eCallP Ccrossings_of (aCons (eName 3) aNil)))))))
  (sRet (eCallP Cwalk_with (aCons (eIx (eIxN 0 (eC (.int 0))) (eC (.int 0))) (aCons (eName 1) (aCons (eName 2) aNil))))))))
theorem lenjoined_of_any_size (rs : List Rv) (g : Option Nat) (Q : Rv → Option Nat → Prop) (h : Cjoined_of_any_size rs g Q) : rs.length = 1 := by
  obtain ⟨_, _, rfl, _⟩ := h
  rfl
theorem specjoined_of_any_size (rs : List Rv) (g : Option Nat) (Q : Rv → Option Nat → Prop) (h : Cjoined_of_any_size rs g Q) : wjoined_of_any_size (startC 4 rs g) (endP Q) fun _ _ => False := by
  obtain ⟨k, ks, rfl, hl, hk, hQ⟩ := h
  simp only [wjoined_of_any_size]
  simp -dsimp only [startC, List.map_cons, List.map_nil, List.cons_append, List.nil_append, List.length_cons, List.length_nil, Nat.reduceSub, Nat.reduceAdd, List.replicate_succ, List.replicate_zero]
  try simp -dsimp only [rR_]
  refine ⟨k, rfl, by omega, ?_⟩
  try simp -dsimp only [rR_]
  refine ⟨k, rfl, by omega, ?_⟩
  simp -dsimp only [rR_, slD_l]
  rw [show cutX (eK k :: ks.map eK) (some 1) none = ks.map eK from cut_tl (i := 1) _ (by simp)]
  refine forW_ind _ (fun i c => ∃ (x3 : Option Px), c = ⟨[some (.d (.list (eK k :: ks.map eK))), some (.own ((nums (joinL k (ks.take i))).map .int)), some (.own ((crs (joinL k (ks.take i))).map eC2)), x3.map .d], g⟩) (fun i x c hx hI R hR => ?_) (fun c hI => ?_) _ ⟨none, rfl⟩
  · obtain ⟨x3, rfl⟩ := hI
    obtain ⟨l, hl2, rfl⟩ := map_at hx
    have hle := lens_mem hl2
    have hJ := joinL_len k (ks.take i)
    obtain ⟨L, x, e1, e2, e3⟩ := joinW_nums (joinL k (ks.take i)) l
    have hR' := hR _ ⟨some (eK l), rfl⟩
    rw [take_last hl2, joinL_snoc, e2, show crs (joinW (joinL k (ks.take i)) l) = crs (joinL k (ks.take i)) ++ crs l from joinW_cr _ _] at hR'
    rw [e1]
    try simp -dsimp only [rR_]
    refine itM_last ?_
    simp -dsimp only [rR_, eK]
    refine ⟨L.length, by rw [List.length_map, List.length_append]; exact ixN_last, l, rfl, by omega, ?_⟩
    rw [show (List.map PyData.int (L ++ [x])).set L.length (PyData.int (x + l.k)) = (L ++ [x + l.k]).map .int by simp]
    simp -dsimp only [rR_, slD_l]
    rw [show cutX (List.map PyData.int (nums l)) (some 1) none = (l.steps.map Stp.k).map .int from cut_tl (i := 1) (PyData.int l.k :: (l.steps.map Stp.k).map .int) (by simp)]
    try simp -dsimp only [rR_]
    have hln := nums_len (joinL k (ks.take i))
    rw [e1] at hln
    refine ⟨by simp at hln ⊢; omega, l, rfl, by omega, ?_⟩
    try simp -dsimp only [rR_]
    rw [List.map_append, List.map_append (l₁ := crs _)] at hR'
    refine ⟨by rw [List.length_map, crs_len]; simp; omega, ?_⟩
    exact hR'
  · obtain ⟨x3, rfl⟩ := hI
    rw [List.length_map, List.take_length]
    try simp -dsimp only [rR_]
    refine ⟨_, _, _, rfl, by simp [nums], by rw [nums_len, joinL_len]; omega, ?_⟩
    rw [show crs (joinL k ks) = (joinL k ks).steps.map cr from rfl]
    have := mkW_self (joinL k ks)
    rw [joinL_room] at this
    rw [this]
    try simp -dsimp only [rR_]
    exact hQ
end K
set_option Elab.async false
set_option maxRecDepth 100000
set_option linter.all false
set_option autoImplicit false
set_option maxHeartbeats 4000000
namespace K
open PySem L2 Dl
variable [TabF]
/-! ### places -/
structure Pl where
  b : Int
  ways : List Kp
def toW (p : Pl) : Wlk := endW p.b (p.ways, 0)
theorem plain_ln (w : Web) (k : Wlk) : (plainW w k).steps.length = (goW w k).1.length := endW_len _ _
def WysOk (w : Web) (K : List Kp) : Prop := ∀ x ∈ K, CrOk w x.t x.s
theorem toW_st {w : Web} {p : Pl} (h : WysOk w p.ways) : StepsOk w (toW p).steps := fun s hs => by
  have h1 : cr s ∈ (toW p).steps.map cr := List.mem_map_of_mem hs
  rw [show (toW p).steps.map cr = p.ways.map Kp.c from mkW_cr (by simp)] at h1
  obtain ⟨x, hx, e⟩ := List.mem_map.mp h1
  have := h x hx
  have e1 : x.t = s.tie := congrArg Prod.fst e
  have e2 : x.s = s.side := congrArg Prod.snd e
  rw [← e1, ← e2]
  exact this
theorem toW_len (p : Pl) : (toW p).steps.length = p.ways.length := endW_len _ _
abbrev Ccrossings_back : Cn := fun rs g Q => ∃ cs : List (Int × Int), rs = [.d (.list (cs.map eC2))] ∧ cs.length ≤ 1000 ∧ Q (.own ((revc cs).map eC2)) g
def wcrossings_back : WS :=
  (sRet (eLc (iLst (eRevL (eName 0))) (gT 2 (gsCons (gN 1) (gsCons (gN 2) gsNil))) wYes (eTup (aCons (eName 1) (aCons (eUn negD (eName 2)) aNil))) [1, 2]))
theorem lencrossings_back (rs : List Rv) (g : Option Nat) (Q : Rv → Option Nat → Prop) (h : Ccrossings_back rs g Q) : rs.length = 1 := by
  obtain ⟨_, rfl, _⟩ := h
  rfl
theorem speccrossings_back (rs : List Rv) (g : Option Nat) (Q : Rv → Option Nat → Prop) (h : Ccrossings_back rs g Q) : wcrossings_back (startC 3 rs g) (endP Q) fun _ _ => False := by
  obtain ⟨cs, rfl, hl, hQ⟩ := h
  simp only [wcrossings_back]
  simp -dsimp only [startC, List.map_cons, List.map_nil, List.cons_append, List.nil_append, List.length_cons, List.length_nil, Nat.reduceSub, Nat.reduceAdd, List.replicate_succ, List.replicate_zero]
  try simp -dsimp only [rR_]
  refine ⟨by simp [nown], ?_⟩
  rw [← List.map_reverse]
  refine lcW_mpa eC2 (fun c => eC2 (rvc c)) _ (fun c hc R S hR => ?_) (by simp; omega) ?_
  · simp -dsimp only [rR_, Turn1, wipeE, eC2]
    exact ⟨by decide, hR⟩
  try simp -dsimp only [rR_]
  unfold revc at hQ
  rw [List.map_map] at hQ
  exact hQ
abbrev Copposite_walk : Cn := fun rs g Q => ∃ w k, rs = [.d (eW w), .d (eK k)] ∧ WK w k ∧ Q (.d (eK (backW w k))) g
def wopposite_walk : WS :=
  (sSeq (sAsg (eLc (iLst (eRevL (eCallP Cnumbers_of (aCons (eName 1) aNil)))) (gN 3) wYes (eUn negD (eName 3)) [3]) (gN 2))
  (sRet (eCallP Cwalk_with (aCons (eCallP Cend_room (aCons (eName 0) (aCons (eName 1) aNil))) (aCons (eName 2) (aCons (eCallP Ccrossings_back (aCons (eCallP Ccrossings_of (aCons (eName 1) aNil)) aNil)) aNil))))))
theorem lenopposite_walk (rs : List Rv) (g : Option Nat) (Q : Rv → Option Nat → Prop) (h : Copposite_walk rs g Q) : rs.length = 2 := by
  obtain ⟨_, _, rfl, _⟩ := h
  rfl
theorem specopposite_walk (rs : List Rv) (g : Option Nat) (Q : Rv → Option Nat → Prop) (h : Copposite_walk rs g Q) : wopposite_walk (startC 4 rs g) (endP Q) fun _ _ => False := by
  obtain ⟨w, k, rfl, wk, hQ⟩ := h
  have hl := wk.ln
  have hn := nums_len k
  simp only [wopposite_walk]
  simp -dsimp only [startC, List.map_cons, List.map_nil, List.cons_append, List.nil_append, List.length_cons, List.length_nil, Nat.reduceSub, Nat.reduceAdd, List.replicate_succ, List.replicate_zero]
  try simp -dsimp only [rR_]
  refine ⟨k, rfl, hl, ?_⟩
  try simp -dsimp only [rR_]
  refine ⟨by simp [nown], ?_⟩
  rw [← List.map_reverse]
  refine lcW_mpa PyData.int (fun i => .int (-i)) _ (fun i hi R S hR => ?_) (by simp; omega) ?_
  · simp -dsimp only [rR_, Turn1, wipeE]
    exact hR
  try simp -dsimp only [rR_]
  refine ⟨w, k, rfl, wk.st, ?_⟩
  try simp -dsimp only [rR_]
  refine ⟨k, rfl, hl, ?_⟩
  try simp -dsimp only [rR_]
  refine ⟨_, rfl, by simp; omega, ?_⟩
  try simp -dsimp only [rR_]
  refine ⟨endR w k, (nums k).reverse.map fun i => -i, revc (k.steps.map cr), by simp, by simp [nums], by simp; omega, ?_⟩
  try simp -dsimp only [rR_]
  exact hQ
end K
set_option Elab.async false
set_option maxRecDepth 100000
set_option linter.all false
set_option autoImplicit false
set_option maxHeartbeats 4000000
set_option Elab.async false
set_option maxRecDepth 100000
set_option linter.all false
set_option autoImplicit false
set_option maxHeartbeats 4000000
namespace K
open PySem L2 Dl
variable [TabF]
/-! ### walks that keep places: what they do to rows -/
theorem ch_one {w : Web} {c : Int × Int} : Ch w (eCr w c).v [c] (eCr w c).w := Ch.snoc (l := []) c .nil rfl
theorem ch_rev {w : Web} {r : Int} : ∀ (cs : List (Int × Int)), (∀ c ∈ cs, c.2 = 1 ∨ c.2 = -1) → ∀ h, Ch w r cs h → Ch w h (revc cs) r := by
  refine snocInd (P := fun cs => (∀ c ∈ cs, c.2 = 1 ∨ c.2 = -1) → ∀ h, Ch w r cs h → Ch w h (revc cs) r) (fun _ h H => ?_) (fun cs c ih hc h H => ?_)
  · obtain rfl : h = r := H.end
    exact .nil
  · obtain ⟨H1, rfl⟩ := Ch.inv H
    have H2 := ih (fun d hd => hc d (List.mem_append_left _ hd)) _ H1
    obtain ⟨e1, e2⟩ := eCr_rvc (w := w) (c := c) (hc c (by simp))
    rw [revc_snoc]
    have h1 := ch_one (w := w) (c := rvc c)
    rw [e1, e2] at h1
    exact h1.app H2
theorem st_cr {w : Web} {k : Wlk} (h : ∀ c ∈ k.steps.map cr, CrOk w c.1 c.2) : StepsOk w k.steps := fun s hs => h (cr s) (List.mem_map_of_mem hs)
theorem joinW_wk {w : Web} {a b : Wlk} (ha : WK w a) (hb : WK w b) (hl : a.steps.length + b.steps.length ≤ 1000) : WK w (joinW a b) := by
  refine ⟨ha.wo, st_cr fun c hc => ?_, by rw [joinW_len]; exact hl⟩
  rw [joinW_cr] at hc
  rcases List.mem_append.mp hc with hc | hc
  · exact ha.cs c hc
  · exact hb.cs c hc
theorem back_wk {w : Web} {k : Wlk} (h : WK w k) : WK w (backW w k) := by
  refine ⟨h.wo, st_cr fun c hc => ?_, by rw [back_len]; exact h.ln⟩
  rw [back_cr] at hc
  exact CsOk.rev h.cs c hc
theorem turn_wk {w : Web} {r t : Int} (wo : WebOk w 1000) : WK w ⟨r, t, []⟩ := ⟨wo, fun s hs => (nomatch hs), Nat.zero_le _⟩
/-- what a place is, so that walks can be made of it -/
structure PlOk (w : Web) (p : Pl) : Prop where
  wo : WebOk w 1000
  ok : WysOk w p.ways
  ln : p.ways.length ≤ 300
  rd : Red w p.ways
  ch : ∃ h, Ch w p.b (p.ways.map Kp.c) h
theorem PlOk.wk {w : Web} {p : Pl} (h : PlOk w p) : WK w (toW p) := ⟨h.wo, toW_st h.ok, by rw [toW_len]; have := h.ln; omega⟩
theorem PlOk.so {w : Web} {p : Pl} (h : PlOk w p) : ∀ x ∈ p.ways, SOk w ⟨x.t, x.s, 0⟩ := fun x hx => by
  have c := h.ok x hx
  obtain ⟨y, hy⟩ := c.1
  have e : w.e ⟨x.t, x.s, 0⟩ = rev y x.s := e_of (s := ⟨x.t, x.s, 0⟩) hy
  have ok := (h.wo.at hy).rev x.s
  exact ⟨c.2, by rw [e]; exact ok.p0, by rw [e]; exact ok.q0⟩
end K
set_option Elab.async false
set_option maxRecDepth 100000
set_option linter.all false
set_option autoImplicit false
set_option maxHeartbeats 4000000
set_option Elab.async false
set_option maxRecDepth 100000
set_option linter.all false
set_option autoImplicit false
set_option maxHeartbeats 4000000
namespace K
open PySem L2 Dl
variable [TabF]
/-! ### what is drawn, and how great it is -/
theorem NB.back {B : Nat} {w : Web} {k : Wlk} (h : NB B k) : NB B (backW w k) := by
  intro x hx
  rw [back_nums] at hx
  obtain ⟨y, hy, rfl⟩ := List.mem_map.mp hx
  rw [Int.natAbs_neg]
  exact h y (List.mem_reverse.mp hy)
theorem NB.join {A B : Nat} {a b : Wlk} (ha : NB A a) (hb : NB B b) : NB (A + B) (joinW a b) := by
  obtain ⟨L, x, e1, e2, _⟩ := joinW_nums a b
  intro y hy
  rw [e2] at hy
  have hk := hb b.k List.mem_cons_self
  rcases List.mem_append.mp hy with hy | hy
  · rcases List.mem_append.mp hy with hy | hy
    · have := ha y (by rw [e1]; exact List.mem_append_left _ hy)
      omega
    · simp only [List.mem_cons, List.not_mem_nil, or_false] at hy
      subst hy
      have := ha x (by rw [e1]; simp)
      omega
  · have := hb y (List.mem_cons_of_mem _ hy)
    omega
end K
set_option Elab.async false
set_option maxRecDepth 100000
set_option linter.all false
set_option autoImplicit false
set_option maxHeartbeats 4000000
namespace K
open PySem L2 Dl
variable [TabF]
theorem enum_at {l : List Tie} {i : Nat} {x : Px} (h : (enumX 0 (l.map eT))[i]? = some x) : ∃ t, l[i]? = some t ∧ x = .tuple [.int i, eT t] := by
  have hi : i < l.length := by
    have := (List.getElem?_eq_some_iff.mp h).1
    rw [enumX_length, List.length_map] at this
    exact this
  have e : l[i]? = some l[i] := by simp [hi]
  have q := enumX_get (l.map eT) 0 i (eT l[i]) (map_of eT e)
  rw [h] at q
  refine ⟨l[i], e, ?_⟩
  rw [Option.some.inj q, Int.zero_add]
abbrev Cways_out : Cn := fun rs g Q => ∃ w r, rs = [.d (eW w), .d (.int r)] ∧ w.ties.length ≤ 1000 ∧ Q (.d (.tuple ((outs w r).map eC2))) g
def wways_out : WS :=
  (sSeq (sAsg (eLst aNil) (gN 2))
  (sSeq (sFor (iEnmT (aCons (eIxN 0 (eC (.int 1))) aNil)) (gT 2 (gsCons (gN 3) (gsCons (gN 4) gsNil)))
  (sSeq (sIf (wB (eScR 1 (eqD false) (eIxN 4 (eC (.int 0))))) (sExp (eApp 2 (eTup (aCons (eName 3) (aCons (eC (.int 1)) aNil))))) sNil)
  (sIf (wB (eScR 1 (eqD false) (eIxN 4 (eC (.int 1))))) (sExp (eApp 2 (eTup (aCons (eName 3) (aCons (eUn negD (eC (.int 1))) aNil))))) sNil)))
  (sRet (eCB tupC (aCons (eName 2) aNil)))))
theorem lenways_out (rs : List Rv) (g : Option Nat) (Q : Rv → Option Nat → Prop) (h : Cways_out rs g Q) : rs.length = 2 := by
  obtain ⟨w, t, rfl, _⟩ := h
  rfl
theorem specways_out (rs : List Rv) (g : Option Nat) (Q : Rv → Option Nat → Prop) (h : Cways_out rs g Q) : wways_out (startC 5 rs g) (endP Q) fun _ _ => False := by
  obtain ⟨w, r, rfl, hl, hQ⟩ := h
  simp -dsimp only [rQ_, wways_out, eW]
  refine ⟨by decide, ?_⟩
  refine forW_ind _ (fun i c => ∃ (x3 x4 : Option Rv), c = ⟨[some (.d (.tuple [.int w.rooms, .tuple (w.ties.map eT)])), some (.d (.int r)), some (.own ((outsN w r i).map eC2)), x3, x4], g⟩) (fun i x c hx hI R hR => ?_) (fun c hI => ?_) _ ⟨_, _, rfl⟩
  · obtain ⟨x3, x4, rfl⟩ := hI
    obtain ⟨t, ht, rfl⟩ := enum_at hx
    have hn := outsN_len w r i
    have hil : i < w.ties.length := (List.getElem?_eq_some_iff.mp ht).1
    have hs := outsN_succ w r i ht
    simp -dsimp only [rQ_, eT]
    by_cases hv : t.v = r
    · have hvb : (t.v == r) = true := by simpa using hv
      simp -dsimp only [rQ_, hvb]
      refine ⟨by decide, by simp; omega, ?_⟩
      by_cases hw : t.w = r
      · have hwb : (t.w == r) = true := by simpa using hw
        simp -dsimp only [rQ_, hwb]
        refine ⟨by decide, by simp; omega, hR _ ⟨some (.d (.int i)), some (.d (eT t)), ?_⟩⟩
        rw [hs]
        simp [hv, hw, eC2, eT]
      · have hwb : (t.w == r) = false := by simpa using hw
        simp -dsimp only [rQ_, hwb]
        refine hR _ ⟨some (.d (.int i)), some (.d (eT t)), ?_⟩
        rw [hs]
        simp [hv, hw, eC2, eT]
    · have hvb : (t.v == r) = false := by simpa using hv
      simp -dsimp only [rQ_, hvb]
      by_cases hw : t.w = r
      · have hwb : (t.w == r) = true := by simpa using hw
        simp -dsimp only [rQ_, hwb]
        refine ⟨by decide, by simp; omega, hR _ ⟨some (.d (.int i)), some (.d (eT t)), ?_⟩⟩
        rw [hs]
        simp [hv, hw, eC2, eT]
      · have hwb : (t.w == r) = false := by simpa using hw
        simp -dsimp only [rQ_, hwb]
        refine hR _ ⟨some (.d (.int i)), some (.d (eT t)), ?_⟩
        rw [hs]
        simp [hv, hw, eT]
  · obtain ⟨x3, x4, rfl⟩ := hI
    try simp -dsimp only [rQ_]
    rw [enumX_length, List.length_map]
    exact hQ
end K
set_option Elab.async false
set_option maxRecDepth 100000
set_option linter.all false
set_option autoImplicit false
set_option maxHeartbeats 4000000
namespace K
open PySem L2 Dl
variable [TabF]
/-! ### rooms that hang together -/
def Adj (ts : List Tie) (u v : Int) : Prop := ∃ t ∈ ts, (t.v = u ∧ t.w = v) ∨ (t.w = u ∧ t.v = v)
inductive Conn (ts : List Tie) (u : Int) : Int → Prop
  | refl : Conn ts u u
  | step {v x : Int} : Conn ts u v → Adj ts v x → Conn ts u x
theorem Adj.symm {ts : List Tie} {u v : Int} (h : Adj ts u v) : Adj ts v u := by
  obtain ⟨t, ht, h | h⟩ := h
  · exact ⟨t, ht, .inr ⟨h.2, h.1⟩⟩
  · exact ⟨t, ht, .inl ⟨h.2, h.1⟩⟩
theorem Conn.trans {ts : List Tie} {u v x : Int} (h : Conn ts u v) (k : Conn ts v x) : Conn ts u x := by
  induction k with
  | refl => exact h
  | step _ a ih => exact .step ih a
theorem Conn.symm {ts : List Tie} {u v : Int} (h : Conn ts u v) : Conn ts v u := by
  induction h with
  | refl => exact .refl
  | step _ a ih => exact (Conn.step .refl a.symm).trans ih
theorem Conn.mono {ts us : List Tie} {u v : Int} (h : Conn ts u v) (k : ∀ t ∈ ts, t ∈ us) : Conn us u v := by
  induction h with
  | refl => exact .refl
  | step _ a ih =>
    obtain ⟨t, ht, a⟩ := a
    exact .step ih ⟨t, k t ht, a⟩
theorem Conn.range {w : Web} {gr u v : Int} (wo : WebOk w gr) (h : Conn w.ties u v) (h0 : 0 ≤ u ∧ u < w.rooms) : 0 ≤ v ∧ v < w.rooms := by
  induction h with
  | refl => exact h0
  | step _ a ih =>
    obtain ⟨t, ht, a | a⟩ := a
    · rw [← a.2]
      exact ⟨(wo.tie t ht).w0, (wo.tie t ht).w1⟩
    · rw [← a.2]
      exact ⟨(wo.tie t ht).v0, (wo.tie t ht).v1⟩
theorem uniq_sorted {α : Type} (f : α → Int) : ∀ {l m : List α}, l.Pairwise (fun x y => f x < f y) → m.Pairwise (fun x y => f x < f y) → (∀ x, x ∈ l ↔ x ∈ m) → l = m
  | [], [], _, _, _ => rfl
  | [], y :: m, _, _, h => absurd ((h y).mpr List.mem_cons_self) (by simp)
  | x :: l, [], _, _, h => absurd ((h x).mp List.mem_cons_self) (by simp)
  | x :: l, y :: m, h1, h2, h => by
    obtain ⟨a1, a2⟩ := List.pairwise_cons.mp h1
    obtain ⟨b1, b2⟩ := List.pairwise_cons.mp h2
    have e : x = y := by
      rcases List.mem_cons.mp ((h x).mp List.mem_cons_self) with e | hx
      · exact e
      · rcases List.mem_cons.mp ((h y).mpr List.mem_cons_self) with e | hy
        · exact e.symm
        · have p := a1 y hy
          have q := b1 x hx
          omega
    subst e
    rw [uniq_sorted f a2 b2 fun z => ⟨fun hz => ?_, fun hz => ?_⟩]
    · rcases List.mem_cons.mp ((h z).mp (List.mem_cons_of_mem _ hz)) with e | k
      · subst e
        have := a1 z hz
        omega
      · exact k
    · rcases List.mem_cons.mp ((h z).mpr (List.mem_cons_of_mem _ hz)) with e | k
      · subst e
        have := b1 z hz
        omega
      · exact k
theorem nodup_len : ∀ (n : Nat) (l : List Int), l.Nodup → (∀ x ∈ l, 0 ≤ x ∧ x < (n : Int)) → l.length ≤ n
  | 0, [], _, _ => Nat.le_refl _
  | 0, x :: l, _, h => by
    have := h x List.mem_cons_self
    omega
  | n + 1, l, h1, h2 => by
    by_cases hm : (n : Int) ∈ l
    · have ih := nodup_len n (l.erase (n : Int)) (h1.erase _) fun x hx => by
        have q := (h1.mem_erase_iff).mp hx
        have := h2 x q.2
        have := q.1
        omega
      have := List.length_erase_of_mem hm
      omega
    · have ih := nodup_len n l h1 fun x hx => by
        have := h2 x hx
        have : x ≠ (n : Int) := fun z => hm (z ▸ hx)
        omega
      omega
/-- a piece's rooms, ascending -/
structure IsPiece (ts : List Tie) (r : Int) (l : List Int) : Prop where
  asc : l.Pairwise (· < ·)
  mem : ∀ x, x ∈ l ↔ Conn ts r x
theorem IsPiece.uniq {ts : List Tie} {r : Int} {l m : List Int} (h : IsPiece ts r l) (k : IsPiece ts r m) : l = m :=
  uniq_sorted id h.asc k.asc fun x => (h.mem x).trans (k.mem x).symm
theorem IsPiece.of {ts : List Tie} {r s : Int} {l : List Int} (h : IsPiece ts r l) (k : Conn ts r s) : IsPiece ts s l :=
  ⟨h.asc, fun x => (h.mem x).trans ⟨fun q => k.symm.trans q, fun q => k.trans q⟩⟩
theorem asc_of {l m : List Int} (hp : m.Perm l) (hs : m.Pairwise (· ≤ ·)) (hn : l.Nodup) : m.Pairwise (· < ·) := by
  have hm : m.Nodup := hp.nodup_iff.mpr hn
  exact (hs.and hm).imp fun h => by
    have := h.1
    have := h.2
    omega
theorem outs_all {w : Web} {i : Nat} {t : Tie} (h : w.ties[i]? = some t) {r : Int} : (t.v = r → ((i : Int), (1 : Int)) ∈ outs w r) ∧ (t.w = r → ((i : Int), (-1 : Int)) ∈ outs w r) := by
  have hi : i < w.ties.length := (List.getElem?_eq_some_iff.mp h).1
  unfold outs outsN
  constructor
  · intro e
    refine List.mem_flatMap.mpr ⟨i, List.mem_range.mpr hi, ?_⟩
    rw [h]
    simp [e]
  · intro e
    refine List.mem_flatMap.mpr ⟨i, List.mem_range.mpr hi, ?_⟩
    rw [h]
    simp [e]
/-- what a room is next to, some way out leads to -/
theorem adj_out {w : Web} {u v : Int} (h : Adj w.ties u v) : ∃ c ∈ outs w u, ∃ x, Web.at w c.1 x ∧ (rev x c.2).w = v := by
  obtain ⟨t, ht, a⟩ := h
  obtain ⟨i, hi, e⟩ := List.getElem_of_mem ht
  have e' : w.ties[i]? = some t := by rw [List.getElem?_eq_getElem hi, e]
  rcases a with ⟨e1, e2⟩ | ⟨e1, e2⟩
  · exact ⟨_, (outs_all e').1 e1, t, ⟨i, rfl, e'⟩, by simpa [rev] using e2⟩
  · exact ⟨_, (outs_all e').2 e1, t, ⟨i, rfl, e'⟩, by simpa [rev] using e2⟩
theorem out_adj {w : Web} {u : Int} {c : Int × Int} (h : c ∈ outs w u) {x : Tie} (hx : Web.at w c.1 x) : Adj w.ties u (rev x c.2).w := by
  have hv := (outs_ok h).2 x hx
  have hm : x ∈ w.ties := by
    obtain ⟨i, _, e⟩ := hx
    exact List.mem_of_getElem? e
  unfold rev at hv ⊢
  split at hv
  · rename_i hs
    rw [if_pos hs]
    exact ⟨x, hm, .inl ⟨hv, rfl⟩⟩
  · rename_i hs
    rw [if_neg hs]
    exact ⟨x, hm, .inr ⟨hv, rfl⟩⟩
theorem at_uniq {w : Web} {t : Int} {x y : Tie} (h : Web.at w t x) (k : Web.at w t y) : x = y := h.tie.symm.trans k.tie
end K
set_option Elab.async false
set_option maxRecDepth 100000
set_option linter.all false
set_option autoImplicit false
set_option maxHeartbeats 4000000
namespace K
open PySem L2 Dl
variable [TabF]
/-! ### the piece of a room -/
/-- met and waiting rooms -/
structure PI (w : Web) (r : Int) (met wait : List Int) : Prop where
  nd : met.Nodup
  rm : r ∈ met
  co : ∀ x ∈ met, Conn w.ties r x
  su : ∀ x ∈ wait, x ∈ met
  wl : wait.length ≤ met.length
def wlen : Option (Option Rv) → Nat
  | some (some (.own xs)) => xs.length
  | _ => 0
theorem any_int (l : List Int) (i : Int) : ((l.map PyData.int).any fun z => PyData.eqv z (.int i)) = decide (i ∈ l) := by
  induction l with
  | nil => simp
  | cons a l ih =>
    rw [List.map_cons, List.any_cons, ih]
    rw [Bool.eq_iff_iff]
    simp only [PyData.eqv, Bool.or_eq_true, beq_iff_eq, decide_eq_true_eq, List.mem_cons]
    constructor
    · rintro (h | h)
      · exact .inl h.symm
      · exact .inr h
    · rintro (h | h)
      · exact .inl h.symm
      · exact .inr h
theorem flat_ints (l : List Int) : (l.map PyData.int).all flatD = true := by
  rw [List.all_map]
  exact List.all_eq_true.mpr fun _ _ => rfl
theorem inT_l (l : List Int) {i : Int} {P : Rv → Prop} : inD true (.int i) (.list (l.map .int)) P = P (.d (.bool (!decide (i ∈ l)))) := by
  simp only [inD, flat_ints, any_int, true_and]
  simp [flatD]
theorem inF_l (l : List Int) {i : Int} {P : Rv → Prop} : inD false (.int i) (.list (l.map .int)) P = P (.d (.bool (decide (i ∈ l)))) := by
  simp only [inD, flat_ints, any_int, true_and]
  simp [flatD]
theorem inF_t (l : List Int) {i : Int} {P : Rv → Prop} : inD false (.int i) (.tuple (l.map .int)) P = P (.d (.bool (decide (i ∈ l)))) := by
  simp only [inD, flat_ints, any_int, true_and]
  simp [flatD]
abbrev Cpiece_of : Cn := fun rs g Q => ∃ (w : Web) (gr r : Int), rs = [.d (eW w), .d (.int r)] ∧ (WebOk w gr ∧ w.ties.length ≤ 1000 ∧ w.rooms ≤ 1000 ∧ 0 ≤ r ∧ r < w.rooms) ∧ ∀ l, IsPiece w.ties r l → Q (.d (tupI l)) g
def wpiece_of : WS :=
  (sSeq (sAsg (eLst (aCons (eName 1) aNil)) (gN 2))
  (sSeq (sAsg (eLst (aCons (eName 1) aNil)) (gN 3))
  (sSeq (sWh (wTruN 3)
  (sSeq (sAsg (ePop 3) (gN 4))
  (sFor (iTpl (eCallP Cways_out (aCons (eName 0) (aCons (eName 4) aNil)))) (gT 2 (gsCons (gN 5) (gsCons (gN 6) gsNil)))
  (sSeq (sAsg (eIx (eCallP Cends_of (aCons (eName 0) (aCons (eName 5) (aCons (eName 6) aNil)))) (eC (.int 1))) (gN 7))
  (sIf (wB (eScR 2 (inD true) (eName 7))) (sSeq (sExp (eApp 2 (eName 7)))
  (sExp (eApp 3 (eName 7)))) sNil)))))
  (sRet (eCB tupC (aCons (eCB sortIC (aCons (eName 2) aNil)) aNil))))))
theorem lenpiece_of (rs : List Rv) (g : Option Nat) (Q : Rv → Option Nat → Prop) (h : Cpiece_of rs g Q) : rs.length = 2 := by
  obtain ⟨_, _, _, rfl, _⟩ := h
  rfl
theorem specpiece_of (rs : List Rv) (g : Option Nat) (Q : Rv → Option Nat → Prop) (h : Cpiece_of rs g Q) : wpiece_of (startC 8 rs g) (endP Q) fun _ _ => False := by
  obtain ⟨w, gr, r, rfl, ⟨wo, hw, hr, h0, h1⟩, hQ⟩ := h
  simp -dsimp only [rQ_, wpiece_of, Cways_out, Cends_of, sWh]
  refine ⟨by decide, by decide, ?_⟩
  refine whW_ind (fun c => ∃ (met wait : List Int) (x4 x5 x6 x7 : Option Rv), PI w r met wait ∧ (∀ x ∈ met, x ∉ wait → ∀ y, Adj w.ties x y → y ∈ met) ∧ c = ⟨[some (.d (eW w)), some (.d (.int r)), some (.own (met.map .int)), some (.own (wait.map .int)), x4, x5, x6, x7], g⟩) (fun c => 2 * (w.rooms.toNat - wlen c.env[2]?) + wlen c.env[3]?) (fun c hI R hR => ?_) _ ⟨[r], [r], none, none, none, none, ⟨by simp, by simp, ?_, by simp, by simp⟩, ?_, rfl⟩
  · obtain ⟨met, wait, x4, x5, x6, x7, pi, hcl, rfl⟩ := hI
    have hlen : met.length ≤ w.rooms.toNat := nodup_len _ met pi.nd fun x hx => by
      have := (pi.co x hx).range wo ⟨h0, h1⟩
      omega
    simp -dsimp only [rQ_, wTruN]
    by_cases hwt : wait = []
    · simp -dsimp only [rQ_, hwt, List.map_nil, List.isEmpty_nil, Bool.not_true]
      refine ⟨met, rfl, fun ms hp hs => ?_⟩
      try simp -dsimp only [rQ_]
      refine hQ ms ⟨asc_of hp hs pi.nd, fun x => hp.mem_iff.trans ⟨pi.co x, fun hc => ?_⟩⟩
      induction hc with
      | refl => exact pi.rm
      | step _ a ih => exact hcl _ ih (by rw [hwt]; simp) _ a
    · obtain ⟨ys, a, hya⟩ : ∃ ys a, wait = ys ++ [a] := ⟨_, _, (List.dropLast_concat_getLast hwt).symm⟩
      subst hya
      have ham : a ∈ met := pi.su a (by simp)
      have e1 : ((ys ++ [a]).map PyData.int).isEmpty = false := by simp
      have e2 : ((ys ++ [a]).map PyData.int)[((ys ++ [a]).map PyData.int).length - 1]? = some (.int a) := by simp
      have e3 : ((ys ++ [a]).map PyData.int).dropLast = ys.map .int := by simp
      simp only [e1, e2, e3, Bool.not_false, if_true]
      refine ⟨w, a, rfl, hw, ?_⟩
      simp -dsimp only [rQ_, e3]
      refine forW_ind _ (fun i c => ∃ (met2 wait2 : List Int) (x4 x5 x6 x7 : Option Rv), PI w r met2 wait2 ∧ a ∈ met2 ∧ (∀ x ∈ met2, x ∉ wait2 → x ≠ a → ∀ y, Adj w.ties x y → y ∈ met2) ∧ (∀ j < i, ∀ c2, (outs w a)[j]? = some c2 → ∀ t, Web.at w c2.1 t → (rev t c2.2).w ∈ met2) ∧
        2 * (w.rooms.toNat - met2.length) + wait2.length < 2 * (w.rooms.toNat - met.length) + (ys.length + 1) ∧ c = ⟨[some (.d (eW w)), some (.d (.int r)), some (.own (met2.map .int)), some (.own (wait2.map .int)), x4, x5, x6, x7], g⟩) (fun i x c hx hI R2 hR2 => ?_) (fun c hI => ?_) _
        ⟨met, ys, _, _, _, _, ⟨pi.nd, pi.rm, pi.co, fun x hx => pi.su x (List.mem_append_left _ hx), by have := pi.wl; simp at this; omega⟩, ham, fun x hx hn hne => hcl x hx fun h => ?_, fun j hj => absurd hj (Nat.not_lt_zero _), by omega, rfl⟩
      · obtain ⟨met2, wait2, x4, x5, x6, x7, pi2, ha2, hc2, hdn, hm2, rfl⟩ := hI
        obtain ⟨⟨t, s⟩, hc, rfl⟩ := map_at hx
        have hco := List.mem_of_getElem? hc
        obtain ⟨⟨⟨y, hy⟩, hs⟩, hv⟩ := outs_ok hco
        have hadj := out_adj hco hy
        simp -dsimp only [rQ_, eC2]
        refine ⟨w, t, s, y, rfl, hy, ?_⟩
        simp -dsimp only [rQ_, eT]
        rw [inT_l]
        by_cases hin : (rev y s).w ∈ met2
        · simp -dsimp only [rQ_, hin, decide_true, Bool.not_true]
          refine hR2 _ ⟨met2, wait2, x4, some (.d (.int t)), some (.d (.int s)), some (.d (.int (rev y s).w)), pi2, ha2, hc2, fun j hj c2 hj2 t2 ht2 => ?_, hm2, rfl⟩
          by_cases hji : j < i
          · exact hdn j hji c2 hj2 t2 ht2
          · have : j = i := by omega
            subst this
            rw [hc] at hj2
            cases hj2
            rw [at_uniq ht2 hy]
            exact hin
        · simp -dsimp only [rQ_, hin, decide_false, Bool.not_false]
          have hcx := (pi2.co a ha2).step hadj
          have nd2 : (met2 ++ [(rev y s).w]).Nodup := List.nodup_append.mpr ⟨pi2.nd, by simp, fun x hx z hz => by
            rw [List.mem_singleton.mp hz]
            exact fun e => hin (e ▸ hx)⟩
          have co2 : ∀ x ∈ met2 ++ [(rev y s).w], Conn w.ties r x := fun x hx => by
            rcases List.mem_append.mp hx with hx | hx
            · exact pi2.co x hx
            · rw [List.mem_singleton.mp hx]
              exact hcx
          have hln : (met2 ++ [(rev y s).w]).length ≤ w.rooms.toNat := nodup_len _ _ nd2 fun x hx => by
            have := (co2 x hx).range wo ⟨h0, h1⟩
            omega
          have hwl := pi2.wl
          simp only [List.length_append, List.length_cons, List.length_nil] at hln
          refine ⟨by rw [List.length_map]; omega, by rw [List.length_map]; omega, hR2 _ ⟨met2 ++ [(rev y s).w], wait2 ++ [(rev y s).w], x4, some (.d (.int t)), some (.d (.int s)), some (.d (.int (rev y s).w)), ⟨nd2, List.mem_append_left _ pi2.rm, co2, fun x hx => ?_, by simp; omega⟩, List.mem_append_left _ ha2, fun x hx hn hne z hz => ?_, fun j hj c2 hj2 t2 ht2 => ?_, by simp only [List.length_append, List.length_cons, List.length_nil]; omega, by simp⟩⟩
          · rcases List.mem_append.mp hx with hx | hx
            · exact List.mem_append_left _ (pi2.su x hx)
            · exact List.mem_append_right _ hx
          · rcases List.mem_append.mp hx with hx | hx
            · exact List.mem_append_left _ (hc2 x hx (fun h => hn (List.mem_append_left _ h)) hne z hz)
            · exact absurd (List.mem_append_right _ hx) hn
          · by_cases hji : j < i
            · exact List.mem_append_left _ (hdn j hji c2 hj2 t2 ht2)
            · have : j = i := by omega
              subst this
              rw [hc] at hj2
              cases hj2
              rw [at_uniq ht2 hy]
              exact List.mem_append_right _ (by simp)
      · obtain ⟨met2, wait2, x4, x5, x6, x7, pi2, ha2, hc2, hdn, hm2, rfl⟩ := hI
        refine hR _ ⟨met2, wait2, x4, x5, x6, x7, pi2, fun x hx hn y hy => ?_, rfl⟩ ?_
        · by_cases hxa : x = a
          · subst hxa
            obtain ⟨c, hc, t, ht, e⟩ := adj_out hy
            obtain ⟨j, hj, e2⟩ := List.getElem_of_mem hc
            rw [← e]
            exact hdn j (by simpa using hj) c (by rw [List.getElem?_eq_getElem hj, e2]) t ht
          · exact hc2 x hx hn hxa y hy
        · simp [wlen]
          omega
      · rcases List.mem_append.mp h with h | h
        · exact hn h
        · exact hne (List.mem_singleton.mp h)
  · intro x hx
    rw [List.mem_singleton.mp hx]
    exact .refl
  · intro x hx hn
    exact absurd hx hn
end K
set_option Elab.async false
set_option maxRecDepth 100000
set_option linter.all false
set_option autoImplicit false
set_option maxHeartbeats 4000000
namespace K
open PySem L2 Dl
variable [TabF]
/-! ### ways home -/
def keysD (kvs : List (Int × Px)) : List Int := kvs.map (·.1)
def unmet (n : Nat) (ks : List Int) : Nat := ((List.range n).filter fun a : Nat => !(ks.contains (a : Int))).length
theorem filter_lt {α : Type} {p q : α → Bool} (h : ∀ x, p x = true → q x = true) : ∀ {l : List α} {a : α}, a ∈ l → q a = true → p a = false → (l.filter p).length < (l.filter q).length
  | x :: l, a, ha, hq, hp => by
    have hle : ∀ l : List α, (l.filter p).length ≤ (l.filter q).length := by
      intro l
      induction l with
      | nil => exact Nat.le_refl _
      | cons y l ih =>
        rw [List.filter_cons, List.filter_cons]
        by_cases h1 : p y = true
        · rw [if_pos h1, if_pos (h y h1)]
          simp only [List.length_cons]
          omega
        · rw [if_neg h1]
          split
          · simp only [List.length_cons]
            omega
          · exact ih
    rw [List.filter_cons, List.filter_cons]
    rcases List.mem_cons.mp ha with rfl | ha
    · rw [if_neg (by rw [hp]; decide), if_pos hq]
      have := hle l
      simp only [List.length_cons]
      omega
    · have ih := filter_lt h ha hq hp
      by_cases h1 : p x = true
      · rw [if_pos h1, if_pos (h x h1)]
        simp only [List.length_cons]
        omega
      · rw [if_neg h1]
        split
        · simp only [List.length_cons]
          omega
        · exact ih
theorem unmet_lt {n : Nat} {ks : List Int} {a : Int} (h0 : 0 ≤ a) (h1 : a < n) (ha : ¬ a ∈ ks) : unmet n (ks ++ [a]) < unmet n ks := by
  obtain ⟨b, rfl⟩ : ∃ b : Nat, a = (b : Int) := ⟨a.toNat, by omega⟩
  unfold unmet
  refine filter_lt (a := b) (fun x hx => ?_) (by simp; omega) ?_ ?_
  · simp at hx ⊢
    exact hx.1
  · simpa using ha
  · simp
theorem unmet_le (n : Nat) (ks : List Int) : unmet n ks ≤ n := by
  unfold unmet
  have := List.length_filter_le (fun a : Nat => !(ks.contains (a : Int))) (List.range n)
  rwa [List.length_range] at this
def eHm (h : List (Int × List (Int × Int))) : List (Int × Px) := h.map fun p => (p.1, .list (p.2.map eC2))
theorem eHm_keys (h : List (Int × List (Int × Int))) : keysD (eHm h) = h.map (·.1) := by
  unfold keysD eHm
  rw [List.map_map]
  rfl
theorem eHm_look {h : List (Int × List (Int × Int))} {a : Int} (ha : a ∈ h.map (·.1)) : ∃ cs, (a, cs) ∈ h ∧ lookD (eHm h) a = some (.list (cs.map eC2)) := by
  induction h with
  | nil => cases ha
  | cons p h ih =>
    obtain ⟨b, cs⟩ := p
    by_cases e : b = a
    · subst e
      exact ⟨cs, by simp, by simp [lookD, eHm]⟩
    · have ha : a ∈ h.map (·.1) := by
        rw [List.map_cons] at ha
        rcases List.mem_cons.mp ha with z | z
        · exact absurd z.symm e
        · exact z
      obtain ⟨ds, h1, h2⟩ := ih ha
      refine ⟨ds, List.mem_cons_of_mem _ h1, ?_⟩
      rw [← h2]
      simp [lookD, eHm, e]
theorem eHm_none {h : List (Int × List (Int × Int))} {a : Int} (ha : ¬ a ∈ h.map (·.1)) : lookD (eHm h) a = none := by
  unfold lookD eHm
  rw [List.find?_eq_none.mpr]
  · rfl
  · intro p hp
    obtain ⟨q, hq, rfl⟩ := List.mem_map.mp hp
    simp only [decide_eq_true_eq]
    intro z
    exact ha (List.mem_map.mpr ⟨q, hq, z⟩)
theorem eHm_put {h : List (Int × List (Int × Int))} {a : Int} {cs : List (Int × Int)} (ha : ¬ a ∈ h.map (·.1)) : putD (eHm h) a (.list (cs.map eC2)) = eHm (h ++ [(a, cs)]) := by
  unfold putD
  rw [if_neg]
  · simp [eHm]
  · intro z
    rw [List.any_eq_true] at z
    obtain ⟨p, hp, e⟩ := z
    obtain ⟨q, hq, rfl⟩ := List.mem_map.mp hp
    exact ha (List.mem_map.mpr ⟨q, hq, by simpa using e⟩)
/-- the rows that lead home, as far as they are found -/
structure Hm (w : Web) (r : Int) (h : List (Int × List (Int × Int))) : Prop where
  st : r ∈ h.map (·.1)
  en : ∀ p ∈ h, CsOk w p.2 ∧ Ch w r p.2 p.1 ∧ p.2.length + 1 ≤ h.length ∧ 0 ≤ p.1 ∧ p.1 < w.rooms
  un : h.length + unmet w.rooms.toNat (h.map (·.1)) ≤ w.rooms.toNat
def Cl (w : Web) (ks : List Int) (a : Int) : Prop := ∀ c ∈ outs w a, (eCr w c).w ∈ ks
theorem Cl.up {w : Web} {ks ls : List Int} {a : Int} (h : Cl w ks a) (l : ∀ x ∈ ks, x ∈ ls) : Cl w ls a := fun c hc => l _ (h c hc)
theorem Hm.add {w : Web} {r a : Int} {h : List (Int × List (Int × Int))} {cs : List (Int × Int)} {c : Int × Int} (H : Hm w r h) (ha : (a, cs) ∈ h) (hc : CrOk w c.1 c.2) (hv : (eCr w c).v = a) (h0 : 0 ≤ (eCr w c).w) (h1 : (eCr w c).w < w.rooms) (hn : ¬ (eCr w c).w ∈ h.map (·.1)) : Hm w r (h ++ [((eCr w c).w, cs ++ [c])]) := by
  obtain ⟨q1, q2, q3, q4, q5⟩ := H.en _ ha
  have hu := unmet_lt (n := w.rooms.toNat) h0 (by omega) hn
  have := H.un
  refine ⟨by rw [List.map_append]; exact List.mem_append_left _ H.st, fun p hp => ?_, ?_⟩
  · rcases List.mem_append.mp hp with hp | hp
    · obtain ⟨p1, p2, p3, p4, p5⟩ := H.en p hp
      exact ⟨p1, p2, by simp; omega, p4, p5⟩
    · simp only [List.mem_cons, List.not_mem_nil, or_false] at hp
      subst hp
      refine ⟨fun d hd => ?_, .snoc c q2 hv, by simp at q3 ⊢; omega, h0, h1⟩
      rcases List.mem_append.mp hd with hd | hd
      · exact q1 d hd
      · simp only [List.mem_cons, List.not_mem_nil, or_false] at hd
        subst hd
        exact hc
  · rw [List.map_append, List.length_append]
    show h.length + 1 + unmet _ (h.map (·.1) ++ [(eCr w c).w]) ≤ _
    omega
def slotK : Option (Option Rv) → List Int
  | some (some (.dic (.k kvs))) => keysD kvs
  | _ => []
def slotN : Option (Option Rv) → Nat
  | some (some (.own xs)) => xs.length
  | _ => 0
/-- going on breadth first: what is found, what waits -/
def csOf (h : List (Int × List (Int × Int))) (x : Int) : List (Int × Int) := ((h.find? fun p => decide (p.1 = x)).map (·.2)).getD []
theorem eHm_look2 {h : List (Int × List (Int × Int))} {a : Int} (ha : a ∈ h.map (·.1)) : (a, csOf h a) ∈ h ∧ lookD (eHm h) a = some (.list ((csOf h a).map eC2)) := by
  induction h with
  | nil => cases ha
  | cons p h ih =>
    obtain ⟨b, cs⟩ := p
    by_cases e : b = a
    · subst e
      exact ⟨by simp [csOf], by simp [lookD, eHm, csOf]⟩
    · have ha : a ∈ h.map (·.1) := by
        rw [List.map_cons] at ha
        rcases List.mem_cons.mp ha with z | z
        · exact absurd z.symm e
        · exact z
      obtain ⟨h1, h2⟩ := ih ha
      have ec : csOf ((b, cs) :: h) a = csOf h a := by
        unfold csOf
        rw [List.find?_cons_of_neg (by simpa using e)]
      rw [ec]
      refine ⟨List.mem_cons_of_mem _ h1, ?_⟩
      rw [← h2]
      simp [lookD, eHm, e]
def vis (w : Web) (here : Int) (s : List (Int × List (Int × Int)) × List Int) (c : Int × Int) : List (Int × List (Int × Int)) × List Int :=
  if (eCr w c).w ∈ s.1.map (·.1) then s else (s.1 ++ [((eCr w c).w, csOf s.1 here ++ [c])], s.2 ++ [(eCr w c).w])
inductive BF (w : Web) (O : Int → List (Int × Int)) : List (Int × List (Int × Int)) → List Int → List (Int × List (Int × Int)) → Prop
  | stop {h : List (Int × List (Int × Int))} : BF w O h [] h
  | go {h z : List (Int × List (Int × Int))} {p : Int} {ps : List Int} : BF w O ((O p).foldl (vis w p) (h, ps)).1 ((O p).foldl (vis w p) (h, ps)).2 z → BF w O h (p :: ps) z
theorem BF.uniq {w : Web} {O : Int → List (Int × Int)} {h z z' : List (Int × List (Int × Int))} {ps : List Int} (H : BF w O h ps z) : BF w O h ps z' → z' = z := by
  induction H with
  | stop =>
    intro k
    cases k
    rfl
  | go _ ih =>
    intro k
    cases k with
    | go k => exact ih k
theorem foldl_take {α β : Type} (f : β → α → β) (b : β) {l : List α} {i : Nat} {a : α} (h : l[i]? = some a) : (l.take (i + 1)).foldl f b = f ((l.take i).foldl f b) a := by
  rw [List.take_succ, h, List.foldl_append]
  rfl
abbrev C_law_home : Cn := fun rs g Q => ∃ w r, rs = [.d (eW w), .d (.int r)] ∧ WebOk w 1000 ∧ w.ties.length ≤ 1000 ∧ w.rooms ≤ 1000 ∧ 0 ≤ r ∧ r < w.rooms ∧ ∀ h, Hm w r h → (∀ a ∈ h.map (·.1), Cl w (h.map (·.1)) a) → BF w (outs w) [(r, [])] [r] h → Q (.dic (.k (eHm h))) g
def w_law_home : WS :=
  (sSeq (sPar2 2 3 (eDisp1 (eName 1) (eLst aNil)) (eLst (aCons (eName 1) aNil)))
  (sSeq (sWh (wB (eScL 3 (eqD true) (eLst aNil)))
  (sSeq (sAsg (ePop0 3) (gN 4))
  (sFor (iLst (eCallP C_law_out (aCons (eName 0) (aCons (eName 4) aNil)))) (gT 2 (gsCons (gN 5) (gsCons (gN 6) gsNil)))
  (sSeq (sAsg (eIx (eCallP C_law_ends (aCons (eName 0) (aCons (eName 5) (aCons (eName 6) aNil)))) (eC (.int 1))) (gN 7))
  (sIf (wB (eDIn true 2 (eName 7))) (sSeq (sDctP 2 (eOp addD (eDIx 2 (eName 4)) (eLst (aCons (eTup (aCons (eName 5) (aCons (eName 6) aNil))) aNil))) (eName 7))
  (sExp (eApp 3 (eName 7)))) sNil)))))
  (sRetD 2)))
theorem len_law_home (rs : List Rv) (g : Option Nat) (Q : Rv → Option Nat → Prop) (h : C_law_home rs g Q) : rs.length = 2 := by
  obtain ⟨_, _, rfl, _⟩ := h
  rfl
theorem spec_law_home (rs : List Rv) (g : Option Nat) (Q : Rv → Option Nat → Prop) (h : C_law_home rs g Q) : w_law_home (startC 8 rs g) (endP Q) fun _ _ => False := by
  obtain ⟨w, r, rfl, wo, ht, hr, h0, h1, hQ⟩ := h
  simp only [w_law_home]
  simp -dsimp only [startC, List.map_cons, List.map_nil, List.cons_append, List.nil_append, List.length_cons, List.length_nil, Nat.reduceSub, Nat.reduceAdd, List.replicate_succ, List.replicate_zero]
  try simp -dsimp only [rR_]
  refine ⟨by decide, by decide, ?_⟩
  refine whW_ind (fun c => ∃ (h : List (Int × List (Int × Int))) (pend : List Int) (x4 x5 x6 x7 : Option Px), Hm w r h ∧ (∀ a ∈ pend, a ∈ h.map (·.1)) ∧ (∀ a ∈ h.map (·.1), a ∈ pend ∨ Cl w (h.map (·.1)) a) ∧ pend.length ≤ h.length ∧ (∀ z, BF w (outs w) h pend z → BF w (outs w) [(r, [])] [r] z) ∧
    c = ⟨[some (.d (eW w)), some (.d (.int r)), some (.dic (.k (eHm h))), some (.own (pend.map .int)), x4.map .d, x5.map .d, x6.map .d, x7.map .d], g⟩) (fun c => 2 * unmet w.rooms.toNat (slotK c.env[2]?) + slotN c.env[3]?) (fun c hI R hR => ?_) _ ⟨[(r, [])], [r], none, none, none, none, ⟨by simp, ?_, ?_⟩, by simp, by simp, by simp, fun z hz => hz, rfl⟩
  · obtain ⟨h, pend, x4, x5, x6, x7, H, hp, hc, hl, hT, rfl⟩ := hI
    have hrm : h.length ≤ 1000 := by have := H.un; omega
    try simp -dsimp only [rR_]
    refine ⟨by decide, ?_⟩
    rw [eqt_nil fun x hx => by
      obtain ⟨c, _, rfl⟩ := List.mem_map.mp hx
      exact .int _]
    cases pend with
    | nil =>
      simp -dsimp only [rR_, List.map_nil, List.isEmpty_nil, Bool.not_true]
      exact hQ h H (fun a ha => (hc a ha).resolve_left (by simp)) (hT h .stop)
    | cons a ps =>
      have ha := hp a (by simp)
      simp -dsimp only [rR_, List.map_cons, List.isEmpty_cons, Bool.not_false]
      refine ⟨w, a, rfl, ht, ?_⟩
      try simp -dsimp only [rR_]
      refine forW_ind _ (fun i c => ∃ (h' : List (Int × List (Int × Int))) (pend' : List Int) (x5 x6 x7 : Option Px), Hm w r h' ∧ a ∈ h'.map (·.1) ∧ (∀ b ∈ pend', b ∈ h'.map (·.1)) ∧ (∀ b ∈ h'.map (·.1), b = a ∨ b ∈ pend' ∨ Cl w (h'.map (·.1)) b) ∧ (∀ j c, j < i → (outs w a)[j]? = some c → (eCr w c).w ∈ h'.map (·.1)) ∧
        pend'.length + 1 ≤ h'.length ∧ 2 * unmet w.rooms.toNat (h'.map (·.1)) + pend'.length ≤ 2 * unmet w.rooms.toNat (h.map (·.1)) + ps.length ∧ ((outs w a).take i).foldl (vis w a) (h, ps) = (h', pend') ∧
        c = ⟨[some (.d (eW w)), some (.d (.int r)), some (.dic (.k (eHm h'))), some (.own (pend'.map .int)), some (.d (.int a)), x5.map .d, x6.map .d, x7.map .d], g⟩) (fun i x c hx hI R' hR' => ?_) (fun c hI => ?_) _ ⟨h, ps, x5, x6, x7, H, ha, fun b hb => hp b (by simp [hb]), fun b hb => ?_, fun j c hj => absurd hj (Nat.not_lt_zero _), by simp at hl; omega, by omega, rfl, rfl⟩
      · obtain ⟨h', pend', x5, x6, x7, H', ha', hp', hc', ho', hl', hm', hF, rfl⟩ := hI
        have hrm' : h'.length ≤ 1000 := by have := H'.un; omega
        obtain ⟨⟨t, s⟩, hts, rfl⟩ := map_at hx
        obtain ⟨hcr, hv⟩ := outs_ok (List.mem_of_getElem? hts)
        obtain ⟨y, hy⟩ := hcr.1
        have he : eCr w (t, s) = rev y s := e_of (s := ⟨t, s, 0⟩) hy
        have tok := (wo.at hy).rev s
        have hv := hv y hy
        have hF1 := foldl_take (vis w a) (h, ps) hts
        rw [hF] at hF1
        simp -dsimp only [rR_, eC2]
        refine ⟨w, t, s, y, rfl, hy, ?_⟩
        simp -dsimp only [rR_, eT]
        rw [← he] at tok hv ⊢
        by_cases hk : (eCr w (t, s)).w ∈ h'.map (·.1)
        · obtain ⟨cs, _, hlk⟩ := eHm_look hk
          rw [hlk]
          simp -dsimp only [rR_, Option.isSome_some, Bool.not_true]
          refine hR' _ ⟨h', pend', some (.int t), some (.int s), some (.int (eCr w (t, s)).w), H', ha', hp', hc', fun j c hj hcj => ?_, hl', hm', (by rw [hF1]; unfold vis; rw [if_pos hk]), rfl⟩
          by_cases hji : j = i
          · rw [hji, hts] at hcj
            cases hcj
            exact hk
          · exact ho' j c (by omega) hcj
        · rw [eHm_none hk]
          obtain ⟨hcs, hlk⟩ := eHm_look2 ha'
          have hF2 : vis w a (h', pend') (t, s) = (h' ++ [((eCr w (t, s)).w, csOf h' a ++ [(t, s)])], pend' ++ [(eCr w (t, s)).w]) := by unfold vis; rw [if_neg hk]
          generalize csOf h' a = cs at hcs hlk hF2
          simp -dsimp only [rR_, Option.isSome_none, Bool.not_false]
          refine ⟨_, hlk, ?_⟩
          try simp -dsimp only [rR_]
          obtain ⟨q1, q2, q3, q4, q5⟩ := H'.en _ hcs
          have Ha := H'.add hcs hcr hv tok.w0 tok.w1 hk
          have hu := unmet_lt (n := w.rooms.toNat) tok.w0 (by have := tok.w1; omega) hk
          rw [show cs.map eC2 ++ [PyData.tuple [.int t, .int s]] = (cs ++ [(t, s)]).map eC2 by simp [eC2], eHm_put hk]
          refine ⟨by decide, by decide, by simp at q3 ⊢; omega, by simp [eHm]; omega, by simp; omega, ?_⟩
          refine hR' _ ⟨h' ++ [((eCr w (t, s)).w, cs ++ [(t, s)])], pend' ++ [(eCr w (t, s)).w], some (.int t), some (.int s), some (.int (eCr w (t, s)).w), Ha, by simp at ha' ⊢; exact .inl ha', fun b hb => ?_, fun b hb => ?_, fun j c hj hcj => ?_, by simp; omega, ?_, (by rw [hF1, hF2]), by simp⟩
          · rw [List.map_append]
            rcases List.mem_append.mp hb with hb | hb
            · exact List.mem_append_left _ (hp' b hb)
            · exact List.mem_append_right _ hb
          · rw [List.map_append] at hb ⊢
            rcases List.mem_append.mp hb with hb | hb
            · rcases hc' b hb with z | z | z
              · exact .inl z
              · exact .inr (.inl (List.mem_append_left _ z))
              · exact .inr (.inr (z.up fun x hx => List.mem_append_left _ hx))
            · exact .inr (.inl (List.mem_append_right _ hb))
          · rw [List.map_append]
            by_cases hji : j = i
            · rw [hji, hts] at hcj
              cases hcj
              exact List.mem_append_right _ (by simp)
            · exact List.mem_append_left _ (ho' j c (by omega) hcj)
          · rw [List.map_append, List.length_append]
            show 2 * unmet _ (h'.map (·.1) ++ [(eCr w (t, s)).w]) + (pend'.length + 1) ≤ _
            omega
      · obtain ⟨h', pend', x5, x6, x7, H', ha', hp', hc', ho', hl', hm', hF, rfl⟩ := hI
        rw [List.length_map] at ho' hF
        rw [List.take_length] at hF
        refine hR _ ⟨h', pend', some (.int a), x5, x6, x7, H', hp', fun b hb => ?_, by omega, fun z hz => hT z (.go (by rw [hF]; exact hz)), rfl⟩ ?_
        · rcases hc' b hb with rfl | z | z
          · refine .inr fun c hc => ?_
            obtain ⟨j, hj⟩ := List.getElem?_of_mem hc
            exact ho' j c (List.getElem?_eq_some_iff.mp hj).1 hj
          · exact .inl z
          · exact .inr z
        · show 2 * unmet _ (keysD (eHm h')) + (pend'.map PyData.int).length < 2 * unmet _ (keysD (eHm h)) + ((a :: ps).map PyData.int).length
          rw [eHm_keys, eHm_keys, List.length_map, List.length_map, List.length_cons]
          omega
      · rcases hc b hb with z | z
        · rcases List.mem_cons.mp z with z | z
          · exact .inl z
          · exact .inr (.inl z)
        · exact .inr (.inr z)
  · intro p hp
    have : p = (r, []) := by simpa using hp
    subst this
    exact ⟨fun c hc => (nomatch hc), .nil, by simp, h0, h1⟩
  · have h2 := unmet_lt (n := w.rooms.toNat) (ks := []) h0 (by omega) (by simp)
    rw [List.nil_append] at h2
    have := unmet_le w.rooms.toNat []
    show 1 + unmet w.rooms.toNat [r] ≤ _
    omega
end K
set_option Elab.async false
set_option maxRecDepth 100000
set_option linter.all false
set_option autoImplicit false
set_option maxHeartbeats 4000000
namespace K
open PySem L2 Dl
variable [TabF]
/-! ### drawn closed walks -/
theorem mem_outs {w : Web} {t s a : Int} (h : CrOk w t s) (hv : (eCr w (t, s)).v = a) : (t, s) ∈ outs w a := by
  obtain ⟨⟨x, i, rfl, hx⟩, hs⟩ := h
  have he : eCr w ((i : Int), s) = rev x s := e_of (s := ⟨(i : Int), s, 0⟩) ⟨i, rfl, hx⟩
  rw [he] at hv
  unfold outs outsN
  rw [List.mem_flatMap]
  refine ⟨i, by simpa using (List.getElem?_eq_some_iff.mp hx).1, ?_⟩
  rw [hx]
  rcases hs with rfl | rfl
  · have hv : x.v = a := hv
    simp [hv]
  · have hv : x.w = a := by simpa [rev] using hv
    simp [hv]
theorem Cl.ch {w : Web} {ks : List Int} {r : Int} (hr : r ∈ ks) (hc : ∀ a ∈ ks, Cl w ks a) : ∀ (cs : List (Int × Int)), CsOk w cs → ∀ h, Ch w r cs h → h ∈ ks := by
  refine snocInd (P := fun cs => CsOk w cs → ∀ h, Ch w r cs h → h ∈ ks) (fun _ h H => ?_) (fun cs c ih ok h H => ?_)
  · obtain rfl : h = r := H.end
    exact hr
  · obtain ⟨H1, rfl⟩ := Ch.inv H
    have h1 := ih (fun d hd => ok d (List.mem_append_left _ hd)) _ H1
    exact hc _ h1 c (mem_outs (ok c (by simp)) rfl)
theorem ch_range {w : Web} (wo : WebOk w 1000) {r : Int} (h0 : 0 ≤ r) (h1 : r < w.rooms) : ∀ (cs : List (Int × Int)), CsOk w cs → ∀ h, Ch w r cs h → 0 ≤ h ∧ h < w.rooms := by
  refine snocInd (P := fun cs => CsOk w cs → ∀ h, Ch w r cs h → 0 ≤ h ∧ h < w.rooms) (fun _ h H => ?_) (fun cs c ih ok h H => ?_)
  · obtain rfl : h = r := H.end
    exact ⟨h0, h1⟩
  · obtain ⟨H1, rfl⟩ := Ch.inv H
    obtain ⟨y, hy⟩ := (ok c (by simp)).1
    have he : eCr w c = rev y c.2 := e_of (s := ⟨c.1, c.2, 0⟩) hy
    have tok := (wo.at hy).rev c.2
    rw [he]
    exact ⟨tok.w0, tok.w1⟩
theorem kb_join {B : Int} {a b : Wlk} (ha : KB B a) (hb0 : b.k = 0) (hb : ∀ s ∈ b.steps, s.k.natAbs ≤ B) : KB B (joinW a b) := by
  obtain ⟨r, k, l⟩ := a
  rcases List.eq_nil_or_concat l with rfl | ⟨l, s, rfl⟩
  · rw [joinW_nil rfl, hb0]
    refine ⟨?_, hb⟩
    have := ha.k
    show ((k + 0).natAbs : Int) ≤ B
    rw [Int.add_zero]
    exact this
  · rw [List.concat_eq_append] at ha ⊢
    rw [joinW_snoc rfl, hb0]
    refine ⟨ha.k, fun z hz => ?_⟩
    rcases List.mem_append.mp hz with hz | hz
    · rcases List.mem_append.mp hz with hz | hz
      · exact ha.s z (List.mem_append_left _ hz)
      · simp only [List.mem_cons, List.not_mem_nil, or_false] at hz
        subst hz
        have := ha.s s (by simp)
        show ((s.k + 0).natAbs : Int) ≤ B
        rw [Int.add_zero]
        exact this
    · exact hb z hz
abbrev C_law_closed : Cn := fun rs g Q => ∃ (w : Web) (room steps gr : Int) (n : Nat), rs = [.gen, .d (eW w), .d (.int room), .d (.int steps), .d (.int gr)] ∧ g = some n ∧ WebOk w 1000 ∧ w.ties.length ≤ 1000 ∧ w.rooms ≤ 100 ∧ 0 ≤ room ∧ room < w.rooms ∧ 0 ≤ steps ∧ steps ≤ 100 ∧ 0 < gr ∧ Big gr ∧ n + 1000 ≤ 2 ^ 40 ∧
  ∀ (k : Wlk) (m : Nat), StepsOk w k.steps → Ch w room (k.steps.map cr) room → (k.steps.length : Int) ≤ steps + w.rooms → k.room = room → KB (gr + 4) k → m ≤ n + 1000 → Q (.d (eK k)) (some m)
def w_law_closed : WS :=
  (sSeq (sAsg (eCallG C_law_walk (aCons (eName 0) (aCons (eName 1) (aCons (eName 2) (aCons (eName 3) (aCons (eName 4) aNil)))))) (gN 5))
  (sSeq (sAsg (eDIxC (eCallP C_law_home (aCons (eName 1) (aCons (eCallP C_law_end (aCons (eName 1) (aCons (eName 5) aNil))) aNil))) (eName 2)) (gN 6))
  (sSeq (sAsg (eCB tupC (aCons (eLc (iLst (eName 6)) (gT 2 (gsCons (gN 8) (gsCons (gN 9) gsNil))) wYes (eTup (aCons (eName 8) (aCons (eName 9) (aCons (eCallG C_law_turns (aCons (eName 0) (aCons (eName 4) aNil))) aNil)))) [8, 9]) aNil)) (gN 7))
  (sRet (eCallP C_law_joined (aCons (eName 5) (aCons (eTup (aCons (eCallP C_law_end (aCons (eName 1) (aCons (eName 5) aNil))) (aCons (eC (.int 0)) (aCons (eName 7) aNil)))) aNil)))))))
theorem len_law_closed (rs : List Rv) (g : Option Nat) (Q : Rv → Option Nat → Prop) (h : C_law_closed rs g Q) : rs.length = 5 := by
  obtain ⟨_, _, _, _, _, rfl, _⟩ := h
  rfl
theorem spec_law_closed (rs : List Rv) (g : Option Nat) (Q : Rv → Option Nat → Prop) (h : C_law_closed rs g Q) : w_law_closed (startC 10 rs g) (endP Q) fun _ _ => False := by
  obtain ⟨w, room, steps, gr, n, rfl, rfl, wo, ht, hrm, h0, h1, hs0, hs1, hg, hg2, hn, hQ⟩ := h
  simp only [w_law_closed]
  simp -dsimp only [startC, List.map_cons, List.map_nil, List.cons_append, List.nil_append, List.length_cons, List.length_nil, Nat.reduceSub, Nat.reduceAdd, List.replicate_succ, List.replicate_zero]
  try simp -dsimp only [rR_]
  refine ⟨w, room, steps, gr, n, rfl, rfl, ht, hs0, hs1, hg, hg2, by omega, fun k m e k1 k2 k3 k4 k5 hm => ?_⟩
  have hcs : CsOk w (k.steps.map cr) := fun c hc => by
    obtain ⟨s, hs, rfl⟩ := List.mem_map.mp hc
    exact k1 s hs
  have hend : endR w k = e := endR_ch (by rw [k4]; exact k2)
  obtain ⟨e0, e1⟩ := ch_range wo h0 h1 _ hcs e k2
  try simp -dsimp only [rR_]
  refine ⟨w, k, rfl, k1, ?_⟩
  rw [hend]
  try simp -dsimp only [rR_]
  refine ⟨w, e, rfl, wo, ht, by omega, e0, e1, fun hm2 H hc _ => ?_⟩
  have hroom : room ∈ hm2.map (·.1) := Cl.ch H.st hc (revc (k.steps.map cr)) (CsOk.rev hcs) room (ch_rev _ (fun c hc => (hcs c hc).2) _ k2)
  obtain ⟨cs, hin, hlk⟩ := eHm_look hroom
  obtain ⟨q1, q2, q3, q4, q5⟩ := H.en _ hin
  have hun := H.un
  try simp -dsimp only [rR_]
  refine ⟨_, hlk, ?_⟩
  try simp -dsimp only [rR_]
  refine ⟨by simp [nown], ?_⟩
  have hcl : cs.length ≤ 100 := by simp at q3; omega
  refine lcW_drw eC2 eS (fun c s => cr s = c ∧ (s.k.natAbs : Int) ≤ gr + 4) 3 (m + 300) cs [] m (fun c hc n R S hn2 hR => ?_) (by omega) (by simp; omega) (fun bs m2 hb hm3 => ?_)
  · simp -dsimp only [rR_, Turn1, wipeE, eC2]
    refine ⟨gr, n, rfl, rfl, by omega, hg, hg2, fun k m3 hk hm4 => ?_⟩
    try simp -dsimp only [rR_]
    exact ⟨by decide, hR ⟨c.1, c.2, k⟩ m3 ⟨rfl, by show (k.natAbs : Int) ≤ gr + 4; omega⟩ hm4⟩
  have hcr : bs.map cr = cs := by
    have := hb.map (f := id) (k := cr) fun a b h => h.1.symm
    rw [List.map_id] at this
    exact this.symm
  have hlb : bs.length = cs.length := hb.length.symm
  have hkb := hb.snd (H := fun s => (s.k.natAbs : Int) ≤ gr + 4) fun a b h => h.2
  rw [List.nil_append]
  try simp -dsimp only [rR_]
  refine ⟨w, k, rfl, k1, ?_⟩
  rw [hend]
  try simp -dsimp only [rR_]
  refine ⟨by decide, k, ⟨e, 0, bs⟩, rfl, by show _ + bs.length ≤ 1000; omega, ?_⟩
  try simp -dsimp only [rR_]
  refine hQ (joinW k ⟨e, 0, bs⟩) m2 (st_cr fun c hc => ?_) ?_ ?_ ?_ (kb_join k5 rfl hkb) (by omega)
  · rw [joinW_cr] at hc
    rcases List.mem_append.mp hc with hc | hc
    · exact hcs c hc
    · exact q1 c (by rw [← hcr]; exact hc)
  · rw [joinW_cr]
    exact k2.app (by show Ch w e (bs.map cr) room; rw [hcr]; exact q2)
  · rw [joinW_len]
    show ((k.steps.length + bs.length : Nat) : Int) ≤ _
    simp at q3
    omega
  · rw [joinW_room]
    exact k4
end K
set_option Elab.async false
set_option maxRecDepth 100000
set_option linter.all false
set_option autoImplicit false
set_option maxHeartbeats 4000000
namespace K
open PySem L2 Dl
variable [TabF]
/-! ### opposite and plain walks of the law; reach -/
theorem back_k {w : Web} {k : Wlk} {l : List Int} {a : Int} (h : nums k = l ++ [a]) : (backW w k).k = -a := by
  unfold backW mkW
  rw [h]
  simp
theorem back_at {w : Web} {k : Wlk} {i : Nat} {s : Stp} (h : k.steps.reverse[i]? = some s) : ∃ z, (nums k)[k.steps.length - (i + 1)]? = some z ∧ (backW w k).steps[i]? = some ⟨s.tie, -s.side, -z⟩ := by
  have hi : i < k.steps.length := by simpa using (List.getElem?_eq_some_iff.mp h).1
  have hn : (nums k).length = k.steps.length + 1 := nums_len k
  have hz : k.steps.length - (i + 1) < (nums k).length := by omega
  refine ⟨(nums k)[k.steps.length - (i + 1)], by simp [hz], ?_⟩
  have hb : i < (backW w k).steps.length := by rw [back_len]; exact hi
  have e1 : (backW w k).steps[i]? = some (backW w k).steps[i] := by simp [hb]
  rw [e1]
  congr 1
  have c1 : cr (backW w k).steps[i] = rvc (cr s) := by
    have := congrArg (fun l => l[i]?) (back_cr w k)
    simp only [List.getElem?_map] at this
    rw [e1, ← List.map_reverse, List.getElem?_map, h] at this
    exact Option.some.inj this
  have c2 : (backW w k).steps[i].k = -(nums k)[k.steps.length - (i + 1)] := by
    have := congrArg (fun l => l[i + 1]?) (back_nums w k)
    have e2 : (nums (backW w k))[i + 1]? = some (backW w k).steps[i].k := by
      unfold nums
      rw [List.getElem?_cons_succ, List.getElem?_map, e1]
      rfl
    simp only [List.getElem?_map] at this
    rw [e2, List.getElem?_reverse (by omega)] at this
    rw [show (nums k).length - 1 - (i + 1) = k.steps.length - (i + 1) by omega, show (nums k)[k.steps.length - (i + 1)]? = some (nums k)[k.steps.length - (i + 1)] by simp [hz]] at this
    exact Option.some.inj this
  revert c1 c2
  generalize (backW w k).steps[i] = z
  intro c1 c2
  obtain ⟨t, sd, kk⟩ := z
  simp only [cr, rvc, Prod.mk.injEq] at c1
  obtain ⟨rfl, rfl⟩ := c1
  simp only at c2
  rw [c2]
abbrev C_law_back : Cn := fun rs g Q => ∃ w k, rs = [.d (eW w), .d (eK k)] ∧ WK w k ∧ Q (.d (eK (backW w k))) g
def w_law_back : WS :=
  (sSeq (sAsg (eOp addD (eLst (aCons (eIxN 1 (eC (.int 1))) aNil)) (eLc (iTpl (eIxN 1 (eC (.int 2)))) (gN 8) wYes (eIxN 8 (eC (.int 2))) [8])) (gN 2))
  (sSeq (sPar2 3 4 (eLst aNil) (eCB lenC (aCons (eIxN 1 (eC (.int 2))) aNil)))
  (sSeq (sFor (iTpl (eRevT (eIxN 1 (eC (.int 2))))) (gT 3 (gsCons (gN 5) (gsCons (gN 6) (gsCons (gN 7) gsNil))))
  (sSeq (sAsg (eOp subD (eName 4) (eC (.int 1))) (gN 4))
  (sExp (eApp 3 (eTup (aCons (eName 5) (aCons (eUn negD (eName 6)) (aCons (eUn negD (eIxN 2 (eName 4))) aNil))))))))
  (sRet (eTup (aCons (eCallP C_law_end (aCons (eName 0) (aCons (eName 1) aNil))) (aCons (eUn negD (eIxN 2 (eUn negD (eC (.int 1))))) (aCons (eCB tupC (aCons (eName 3) aNil)) aNil))))))))
theorem len_law_back (rs : List Rv) (g : Option Nat) (Q : Rv → Option Nat → Prop) (h : C_law_back rs g Q) : rs.length = 2 := by
  obtain ⟨_, _, rfl, _⟩ := h
  rfl
theorem spec_law_back (rs : List Rv) (g : Option Nat) (Q : Rv → Option Nat → Prop) (h : C_law_back rs g Q) : w_law_back (startC 9 rs g) (endP Q) fun _ _ => False := by
  obtain ⟨w, k, rfl, hk, hQ⟩ := h
  have hl := hk.ln
  simp -dsimp only [rQ_, w_law_back, C_law_end, eK]
  refine ⟨by decide, by simp [nown], ?_⟩
  refine lcW_mpa eS (fun s => .int s.k) _ (fun s hs R S hR => ?_) (by omega) ?_
  · simp -dsimp only [rQ_, Turn1, wipeE, eS]
    exact hR
  try simp -dsimp only [rQ_]
  rw [show PyData.int k.k :: k.steps.map (fun s => PyData.int s.k) = (nums k).map .int by simp [nums], ← List.map_reverse]
  refine ⟨by simp; omega, by decide, ?_⟩
  refine forW_ind _ (fun i c => ∃ (x5 x6 x7 : Option Px), c = ⟨[some (.d (eW w)), some (.d (eK k)), some (.own ((nums k).map .int)), some (.own (((backW w k).steps.take i).map eS)), some (.d (.int ((k.steps.length : Int) - i))), x5.map .d, x6.map .d, x7.map .d, none], g⟩) (fun i x c hx hI R hR => ?_) (fun c hI => ?_) _ ⟨none, none, none, by simp; rfl⟩
  · obtain ⟨x5, x6, x7, rfl⟩ := hI
    obtain ⟨s, hsi, rfl⟩ := map_at hx
    have hi : i < k.steps.length := by simpa using (List.getElem?_eq_some_iff.mp hsi).1
    obtain ⟨z, hz, hb⟩ := back_at (w := w) hsi
    have hix : ∀ q : Px → Prop, ixD (.list ((nums k).map .int)) (.int ((k.steps.length : Int) - i - 1)) q = q (.int z) := fun q => by
      rw [show (k.steps.length : Int) - i - 1 = ((k.steps.length - (i + 1) : Nat) : Int) by omega]
      exact ixln (by rw [List.getElem?_map, hz]; rfl)
    simp -dsimp only [rQ_, eS, hix]
    refine ⟨by decide, by simp; omega, hR _ ⟨some (.int s.tie), some (.int s.side), some (.int s.k), ?_⟩⟩
    rw [List.take_succ, hb]
    simp [eS]
    omega
  · obtain ⟨x5, x6, x7, rfl⟩ := hI
    rw [List.length_map, List.length_reverse]
    rw [show (backW w k).steps.take k.steps.length = (backW w k).steps from List.take_of_length_le (by rw [back_len]; exact Nat.le_refl _)]
    try simp -dsimp only [rQ_]
    refine ⟨w, k, rfl, hk.st, ?_⟩
    obtain ⟨l, a, hla⟩ : ∃ l a, nums k = l ++ [a] := ⟨_, _, (List.dropLast_concat_getLast (by simp [nums])).symm⟩
    have hkk := back_k (w := w) hla
    simp -dsimp only [rQ_, hla, List.map_append]
    refine ⟨by decide, ?_⟩
    simp only [eK] at hQ
    rw [hkk] at hQ
    exact hQ
def eR (x : Kp) : Px := .tuple [.int x.r, .int x.t, .int x.s]
theorem eR_shp {l : List Kp} : ∀ x ∈ l.map eR, Shp 60 x := fun x hx => by
  obtain ⟨c, _, rfl⟩ := List.mem_map.mp hx
  exact .tup fun y hy => by
    simp only [List.mem_cons, List.not_mem_nil, or_false] at hy
    rcases hy with rfl | rfl | rfl <;> exact .int _
theorem cut3_1 {a b c : Px} : cutX [a, b, c] (some 1) none = [b, c] := cut_tl (i := 1) _ (by simp)
theorem enumX_map {α : Type} (e : α → Px) (d : α) (l : List α) : enumX 0 (l.map e) = (List.range l.length).map fun a : Nat => PyData.tuple [.int (a : Int), e (l.getD a d)] := by
  apply List.ext_getElem?
  intro i
  by_cases h : i < l.length
  · rw [enumX_get (l.map e) 0 i (e l[i]) (by simp [h])]
    simp [h]
  · rw [List.getElem?_eq_none (by rw [enumX_length]; simp; omega), List.getElem?_eq_none (by simp; omega)]
abbrev C_law_plain : Cn := fun rs g Q => ∃ (w : Web) (k : Wlk), rs = [.d (eW w), .d (eK k)] ∧ WK w k ∧ Q (.d (eK (plainW w k))) g
def w_law_plain : WS :=
  (sSeq (sPar2 2 3 (eLst aNil) (eIxN 1 (eC (.int 1))))
  (sSeq (sFor (iTpl (eIxN 1 (eC (.int 2)))) (gT 3 (gsCons (gN 4) (gsCons (gN 5) (gsCons (gN 6) gsNil))))
  (sSeq (sAsg (eCallP C_law_ends (aCons (eName 0) (aCons (eName 4) (aCons (eName 5) aNil)))) (gN 7))
  (sSeq (sAsg (eOp modD (eCB intC (aCons (eName 3) aNil)) (eCB absC (aCons (eIxN 7 (eC (.int 2))) aNil))) (gN 8))
  (sSeq (sAsg (eOp fdivD (eOp subD (eName 3) (eName 8)) (eIxN 7 (eC (.int 2)))) (gN 9))
  (sIf (wAnd (wB (eScL 8 (eqD false) (eC (.int 0)))) (wAnd (wB (eScL 2 (eqD true) (eLst aNil))) (wB (eSc (eqD false) (eSl (eIxN 2 (eUn negD (eC (.int 1)))) (oSome (eC (.int 1))) oNone) (eTup (aCons (eName 4) (aCons (eUn negD (eName 5)) aNil))))))) (sAsg (eOp addD (eOp addD (eIx (ePop 2) (eC (.int 0))) (eOp mulD (eIxN 7 (eC (.int 3))) (eName 9))) (eName 6)) (gN 3)) (sSeq (sExp (eApp 2 (eTup (aCons (eName 8) (aCons (eName 4) (aCons (eName 5) aNil))))))
  (sAsg (eOp addD (eOp mulD (eIxN 7 (eC (.int 3))) (eName 9)) (eName 6)) (gN 3))))))))
  (sSeq (sAsg (eOp addD (eLc (iLst (eName 2)) (gN 13) wYes (eIxN 13 (eC (.int 0))) [13]) (eLst (aCons (eName 3) aNil))) (gN 10))
  (sSeq (sAsg (eLc (iEnm (aCons (eName 2) aNil)) (gT 2 (gsCons (gN 12) (gsCons (gN 13) gsNil))) wYes (eTup (aCons (eIxN 13 (eC (.int 1))) (aCons (eIxN 13 (eC (.int 2))) (aCons (eIxN 10 (eAddN 12 (eC (.int 1)))) aNil)))) [12, 13]) (gN 11))
  (sRet (eTup (aCons (eIxN 1 (eC (.int 0))) (aCons (eIxN 10 (eC (.int 0))) (aCons (eCB tupC (aCons (eName 11) aNil)) aNil)))))))))
theorem len_law_plain (rs : List Rv) (g : Option Nat) (Q : Rv → Option Nat → Prop) (h : C_law_plain rs g Q) : rs.length = 2 := by
  obtain ⟨w, k, rfl, _⟩ := h
  rfl
theorem spec_law_plain (rs : List Rv) (g : Option Nat) (Q : Rv → Option Nat → Prop) (h : C_law_plain rs g Q) : w_law_plain (startC 14 rs g) (endP Q) fun _ _ => False := by
  obtain ⟨w, k, rfl, ⟨wo, hs, hl⟩, hQ⟩ := h
  simp -dsimp only [rQ_, w_law_plain, C_law_ends, eK]
  refine ⟨by decide, ?_⟩
  refine forW_ind _ (fun i c => ∃ (kept : List Kp) (num : Int) (x4 x5 x6 x7 x8 x9 : Option Px), kept.length ≤ i ∧ (k.steps.take i).foldl (go1 w) ([], k.k) = (kept, num) ∧ c = ⟨[some (.d (eW w)), some (.d (eK k)), some (.own (kept.map eR)), some (.d (.int num)), x4.map .d, x5.map .d, x6.map .d, x7.map .d, x8.map .d, x9.map .d, none, none, none, none], g⟩) (fun i x c hx hI R hR => ?_) (fun c hI => ?_) _ ⟨[], k.k, none, none, none, none, none, none, by simp, by simp, rfl⟩
  · obtain ⟨kept, num, x4, x5, x6, x7, x8, x9, hkl, hgo0, rfl⟩ := hI
    obtain ⟨s, hsi, rfl⟩ := map_at hx
    have hmem : s ∈ k.steps := List.mem_of_getElem? hsi
    obtain ⟨y, hy, he, hok⟩ := hs.e wo hmem
    have hi : i < k.steps.length := (List.getElem?_eq_some_iff.mp hsi).1
    have hgo : (k.steps.take (i + 1)).foldl (go1 w) ([], k.k) = go1 w (kept, num) s := by
      rw [List.take_succ, hsi, List.foldl_append, hgo0]
      rfl
    rw [he] at hok
    simp -dsimp only [rQ_, eS]
    refine ⟨w, s.tie, s.side, y, rfl, hy, ?_⟩
    simp -dsimp only [rQ_, eT]
    have hrest : restOf w num s = num.fmod ((rev y s.side).p.natAbs : Int) := by unfold restOf; rw [he]
    have hnx : nextN w num s = (rev y s.side).q * ((num - num.fmod ((rev y s.side).p.natAbs : Int)).fdiv (rev y s.side).p) + s.k := by
      unfold nextN manyOf
      rw [hrest, he]
    have hp0 := hok.p0
    have hp1 := hok.p1
    generalize (rev y s.side).p = p at hp0 hp1 hrest hnx ⊢
    have hq1 := hok.q1
    generalize (rev y s.side).q = q at hq1 hnx ⊢
    refine ⟨by omega, CDiv2.s hp0 (by omega) (by omega), ?_⟩
    generalize (num - num.fmod (p.natAbs : Int)).fdiv p = many at hnx ⊢
    generalize num.fmod (p.natAbs : Int) = rest at hrest hnx ⊢
    by_cases hr0 : rest = 0
    · simp -dsimp only [rQ_, hr0, beq_self_eq_true]
      refine ⟨by decide, ?_⟩
      rw [eqt_nil eR_shp]
      try simp -dsimp only [rQ_]
      by_cases hk : kept = []
      · subst hk
        simp -dsimp only [rQ_, List.map_nil, List.isEmpty_nil, Bool.not_true]
        rw [← hr0]
        have hf : fits [] rest s = false := rfl
        refine ⟨by decide, CMul2.l (by omega) (by omega), hR _ ⟨[⟨rest, s.tie, s.side⟩], q * many + s.k, some (.int s.tie), some (.int s.side), some (.int s.k), some _, some (.int rest), some (.int many), by simp, ?_, rfl⟩⟩
        rw [hgo, go1_f (by rw [hrest]; exact hf), hrest, hnx]
        rfl
      · obtain ⟨ys, r, rfl⟩ : ∃ ys r, kept = ys ++ [r] := ⟨_, _, (List.dropLast_concat_getLast hk).symm⟩
        have he2 : ((ys ++ [r]).map eR).isEmpty = false := by simp
        simp -dsimp only [rQ_, he2, Bool.not_false]
        simp only [List.map_append, List.map_cons, List.map_nil, ixll]
        rw [show eR r = .tuple [.int r.r, .int r.t, .int r.s] from rfl]
        simp -dsimp only [rQ_, cut3_1, eqf_2]
        refine ⟨by decide, ?_⟩
        have hft : fits (ys ++ [r]) rest s = (decide (r.t = s.tie) && decide (r.s = -s.side)) := by
          unfold fits
          simp [hr0]
        generalize hb : (decide (r.t = s.tie) && decide (r.s = -s.side)) = b at hft ⊢
        cases b
        · simp -dsimp only [rQ_]
          rw [← hr0]
          refine ⟨by decide, by simp at hkl ⊢; omega, CMul2.l (by omega) (by omega), hR _ ⟨(ys ++ [r]) ++ [⟨rest, s.tie, s.side⟩], q * many + s.k, some (.int s.tie), some (.int s.side), some (.int s.k), some _, some (.int rest), some (.int many), by simp at hkl ⊢; omega, ?_, by simp [eR]; rfl⟩⟩
          rw [hgo, go1_f (by rw [hrest]; exact hft), hrest, hnx]
        · simp -dsimp only [rQ_]
          rw [show ∀ (l : List Px) (a : Px), (l ++ [a])[(l ++ [a]).length - 1]? = some a from fun l a => by simp, List.dropLast_concat]
          try simp -dsimp only [rQ_]
          refine ⟨CMul2.l (by omega) (by omega), hR _ ⟨ys, r.r + q * many + s.k, some (.int s.tie), some (.int s.side), some (.int s.k), some _, some (.int 0), some (.int many), by simp at hkl; omega, ?_, rfl⟩⟩
          rw [hgo, go1_t (by rw [hrest]; exact hft), hnx]
          congr 1
          omega
    · have hb : (rest == 0) = false := by simpa using hr0
      simp -dsimp only [rQ_, hb]
      have hf : fits kept rest s = false := by
        unfold fits
        split <;> simp [hr0]
      refine ⟨by decide, by simp at hkl ⊢; omega, CMul2.l (by omega) (by omega), hR _ ⟨kept ++ [⟨rest, s.tie, s.side⟩], q * many + s.k, some (.int s.tie), some (.int s.side), some (.int s.k), some _, some (.int rest), some (.int many), by simp at hkl ⊢; omega, ?_, by simp [eR]; rfl⟩⟩
      rw [hgo, go1_f (by rw [hrest]; exact hf), hrest, hnx]
  · obtain ⟨kept, num, x4, x5, x6, x7, x8, x9, hkl, hgo0, rfl⟩ := hI
    rw [List.length_map] at hkl hgo0
    rw [List.take_length] at hgo0
    have hgw : goW w k = (kept, num) := hgo0
    try simp -dsimp only [rQ_]
    refine ⟨by simp [nown], ?_⟩
    refine lcW_mpa eR (fun x => .int x.r) _ (fun r hr R S hR => ?_) (by omega) ?_
    · simp -dsimp only [rQ_, Turn1, wipeE, eR]
      exact hR
    try simp -dsimp only [rQ_]
    have en : kept.map (fun x => PyData.int x.r) ++ [PyData.int num] = (kept.map Kp.r ++ [num]).map PyData.int := by simp
    obtain ⟨n0, nr, hns⟩ : ∃ n0 nr, kept.map Kp.r ++ [num] = n0 :: nr := by
      cases h : kept.map Kp.r ++ [num] with
      | nil => simp at h
      | cons a l => exact ⟨a, l, rfl⟩
    have hnr : nr.length = kept.length := by
      have := congrArg List.length hns
      simp at this
      omega
    have ep : plainW w k = ⟨k.room, n0, (List.range kept.length).map fun a => ⟨(kept.getD a ⟨0, 0, 0⟩).t, (kept.getD a ⟨0, 0, 0⟩).s, nr.getD a 0⟩⟩ := by
      unfold plainW endW mkW
      rw [hgw, hns]
      show Wlk.mk k.room n0 _ = _
      congr 1
      apply List.ext_getElem
      · simp [hnr]
      · intro i h1 h2
        have h3 : i < kept.length := by simpa using h2
        simp [h3, hnr, Kp.c]
    rw [en, hns]
    refine ⟨by decide, by simp; omega, by simp [nown], ?_⟩
    rw [enumX_map eR ⟨0, 0, 0⟩]
    refine lcW_mpa (fun a : Nat => PyData.tuple [.int (a : Int), eR (kept.getD a ⟨0, 0, 0⟩)]) (fun a => eS ⟨(kept.getD a ⟨0, 0, 0⟩).t, (kept.getD a ⟨0, 0, 0⟩).s, nr.getD a 0⟩) _ (fun a ha R' S' hR' => ?_) (by simp; omega) ?_
    · have ha' : a < kept.length := by simpa using ha
      have hat : a < nr.length := by omega
      have hy2 : ∀ q : Px → Prop, ixD (.list (.int n0 :: nr.map .int)) (.int ((a : Int) + 1)) q = q (.int nr[a]) := fun q => by
        rw [show (a : Int) + 1 = ((a + 1 : Nat) : Int) by omega]
        exact ixln (by simp [hat])
      have e2 : nr.getD a 0 = nr[a] := by simp [List.getD, hat]
      simp -dsimp only [rQ_, Turn1, wipeE, eR, hy2]
      simp only [e2, eS] at hR'
      exact ⟨by decide, hR'⟩
    try simp -dsimp only [rQ_]
    rw [ep] at hQ
    simp only [eK, List.map_map] at hQ
    exact ⟨by decide, hQ⟩
structure IsMax (v : Int) (l : List Int) : Prop where
  mem : v ∈ l
  le : ∀ y ∈ l, y ≤ v
theorem IsMax.uniq {v u : Int} {l : List Int} (h : IsMax v l) (k : IsMax u l) : v = u := by
  have := h.le _ k.mem
  have := k.le _ h.mem
  omega
def amts (l : List Int) : List Int := l.map fun i => (i.natAbs : Int)
def sizes (w : Web) (l : List Stp) : List Int := 2 :: l.flatMap fun s => [((w.e s).p.natAbs : Int), ((w.e s).q.natAbs : Int)]
def IsReach (w : Web) (k : Wlk) (v : Int) : Prop := ∃ most base, IsMax most (amts (nums k)) ∧ IsMax base (sizes w k.steps) ∧ v = 2 * (most + base) * base ^ k.steps.length
theorem IsReach.uniq {w : Web} {k : Wlk} {v u : Int} (h : IsReach w k v) (g : IsReach w k u) : v = u := by
  obtain ⟨a, b, h1, h2, rfl⟩ := h
  obtain ⟨c, d, h3, h4, rfl⟩ := g
  rw [h1.uniq h3, h2.uniq h4]
theorem max2_or (x y : Int) : (max2 x y = x ∨ max2 x y = y) ∧ x ≤ max2 x y ∧ y ≤ max2 x y := by
  unfold max2
  split
  · exact ⟨.inr rfl, by omega, by omega⟩
  · exact ⟨.inl rfl, by omega, by omega⟩
theorem IsMax.two {v a b : Int} {l : List Int} (h : IsMax v l) : IsMax (max2 (max2 v a) b) (l ++ [a, b]) := by
  have h1 := h.mem
  obtain ⟨o1, p1, q1⟩ := max2_or v a
  obtain ⟨o2, p2, q2⟩ := max2_or (max2 v a) b
  refine ⟨?_, fun y hy => ?_⟩
  · simp only [List.mem_append, List.mem_cons, List.not_mem_nil, or_false]
    rcases o2 with e | e
    · rw [e]
      rcases o1 with e | e
      · rw [e]
        exact .inl h1
      · exact .inr (.inl e)
    · exact .inr (.inr e)
  · simp only [List.mem_append, List.mem_cons, List.not_mem_nil, or_false] at hy
    rcases hy with hy | rfl | rfl
    · have := h.le y hy
      omega
    · omega
    · omega
end K
set_option Elab.async false
set_option maxRecDepth 100000
set_option linter.all false
set_option autoImplicit false
set_option maxHeartbeats 4000000
namespace K
open PySem L2 Dl
variable [TabF]
theorem sub_len : ∀ (S ks : List Int), S.Nodup → (∀ x ∈ S, x ∈ ks) → S.length ≤ ks.length
  | [], _, _, _ => Nat.zero_le _
  | x :: S, ks, nd, h => by
    obtain ⟨n1, n2⟩ := List.nodup_cons.mp nd
    have hx := h x (by simp)
    have := sub_len S (ks.erase x) n2 fun y hy => (List.mem_erase_of_ne (fun e => n1 (by rw [← e]; exact hy))).mpr (h y (List.mem_cons_of_mem _ hy))
    have l := List.length_erase_of_mem hx
    have l0 : 0 < ks.length := List.length_pos_of_mem hx
    show S.length + 1 ≤ ks.length
    omega
theorem nodup_of_len : ∀ (S ks : List Int), S.Nodup → (∀ x ∈ S, x ∈ ks) → ks.length ≤ S.length → ks.Nodup
  | [], ks, _, _, h => by
    have : ks = [] := List.length_eq_zero_iff.mp (by simpa using h)
    rw [this]
    exact List.nodup_nil
  | x :: S, ks, nd, h, hl => by
    obtain ⟨n1, n2⟩ := List.nodup_cons.mp nd
    have hx := h x (by simp)
    have sub : ∀ y ∈ S, y ∈ ks.erase x := fun y hy => (List.mem_erase_of_ne (fun e => n1 (by rw [← e]; exact hy))).mpr (h y (List.mem_cons_of_mem _ hy))
    have l := List.length_erase_of_mem hx
    have l0 : 0 < ks.length := List.length_pos_of_mem hx
    have hl : ks.length ≤ S.length + 1 := hl
    have ih := nodup_of_len S (ks.erase x) n2 sub (by omega)
    refine (List.perm_cons_erase hx).nodup_iff.mpr (List.nodup_cons.mpr ⟨fun z => ?_, ih⟩)
    have := sub_len (x :: S) (ks.erase x) nd fun y hy => by
      rcases List.mem_cons.mp hy with e | e
      · exact e ▸ z
      · exact sub y e
    have : S.length + 1 ≤ (ks.erase x).length := this
    omega
theorem hm_nodup {w : Web} {r : Int} {h : List (Int × List (Int × Int))} (H : Hm w r h) : (h.map (·.1)).Nodup := by
  refine nodup_of_len (((List.range w.rooms.toNat).filter fun a : Nat => (h.map (·.1)).contains (a : Int)).map fun a : Nat => (a : Int)) _ ?_ (fun x hx => ?_) ?_
  · refine List.Pairwise.map _ (fun a b hab z => hab (by omega)) (List.Pairwise.filter _ List.nodup_range)
  · obtain ⟨a, ha, rfl⟩ := List.mem_map.mp hx
    have := (List.mem_filter.mp ha).2
    exact List.contains_iff_mem.mp this
  · have un := H.un
    rw [List.length_map, List.length_map]
    have part : ∀ l : List Nat, (l.filter fun a : Nat => (h.map (·.1)).contains (a : Int)).length + (l.filter fun a : Nat => !((h.map (·.1)).contains (a : Int))).length = l.length := by
      intro l
      induction l with
      | nil => rfl
      | cons a l ih =>
        by_cases c : (h.map (·.1)).contains (a : Int) = true
        · rw [List.filter_cons_of_pos (by exact c), List.filter_cons_of_neg (by rw [c]; decide)]
          simp only [List.length_cons]
          omega
        · rw [List.filter_cons_of_neg (by exact c), List.filter_cons_of_pos (by simpa using c)]
          simp only [List.length_cons]
          omega
    have p := part (List.range w.rooms.toNat)
    rw [List.length_range] at p
    unfold unmet at un
    omega
theorem ch_conn {w : Web} {r h : Int} {cs : List (Int × Int)} (H : Ch w r cs h) : (∀ c ∈ cs, CrOk w c.1 c.2) → Conn w.ties r h := by
  induction H with
  | nil => exact fun _ => .refl
  | snoc c H e ih =>
    intro ok
    obtain ⟨⟨x, hx⟩, hs⟩ := ok c (by simp)
    have e2 : w.e ⟨c.1, c.2, 0⟩ = rev x c.2 := e_of hx
    have hm : x ∈ w.ties := by
      obtain ⟨i, _, e⟩ := hx
      exact List.mem_of_getElem? e
    rw [e2] at e ⊢
    refine .step (ih fun d hd => ok d (List.mem_append_left _ hd)) ⟨x, hm, ?_⟩
    unfold rev at e ⊢
    rcases hs with h | h
    · rw [if_pos h] at e ⊢
      exact .inl ⟨e, rfl⟩
    · rw [if_neg (by omega)] at e ⊢
      exact .inr ⟨e, rfl⟩
theorem hm_piece {w : Web} {r : Int} {h : List (Int × List (Int × Int))} (H : Hm w r h) (hc : ∀ a ∈ h.map (·.1), Cl w (h.map (·.1)) a) {ms : List Int} (pm : ms.Perm (h.map (·.1))) (so : ms.Pairwise (· ≤ ·)) : IsPiece w.ties r ms := by
  refine ⟨asc_of pm so (hm_nodup H), fun x => pm.mem_iff.trans ⟨fun hx => ?_, fun cx => ?_⟩⟩
  · obtain ⟨p, hp, rfl⟩ := List.mem_map.mp hx
    obtain ⟨q1, q2, _⟩ := H.en p hp
    exact ch_conn q2 q1
  · induction cx with
    | refl => exact H.st
    | step _ a ih =>
      obtain ⟨c, hc', y, hy, e⟩ := adj_out a
      have := hc _ ih c hc'
      have he : eCr w c = rev y c.2 := e_of (s := ⟨c.1, c.2, 0⟩) hy
      rw [he, e] at this
      exact this
end K
set_option Elab.async false
set_option maxRecDepth 100000
set_option linter.all false
set_option autoImplicit false
set_option maxHeartbeats 4000000
namespace K
open PySem L2 Dl
variable [TabF]
/-! ### cores: rooms and ties of a piece, those with one way alone taken off -/
structure RmO (w : Web) (r : Int) : Prop where
  wo : WebOk w 1000
  tl : w.ties.length ≤ 1000
  rl : w.rooms ≤ 1000
  r0 : 0 ≤ r
  r1 : r < w.rooms
def tiesIn (w : Web) (l : List Int) : List Int := ((List.range w.ties.length).filter fun i : Nat => decide ((w.tie (i : Int)).v ∈ l)).map fun i : Nat => (i : Int)
def outsT (w : Web) (ts : List Int) (r : Int) : List (Int × Int) := (outs w r).filter fun c => decide (c.1 ∈ ts)
theorem tie_at {w : Web} {i : Nat} {t : Tie} (h : w.ties[i]? = some t) : w.tie (i : Int) = t := by
  unfold Web.tie
  rw [show ((i : Int)).toNat = i from rfl, h]
  rfl
theorem tie_get {w : Web} {i : Nat} (h : i < w.ties.length) : w.ties[i]? = some (w.tie (i : Int)) := by
  unfold Web.tie
  rw [show ((i : Int)).toNat = i from rfl, List.getElem?_eq_getElem h]
  rfl
theorem fm_ties (w : Web) (l : List Int) : ∀ is : List Nat, is.filterMap (fun i : Nat => if (w.tie (i : Int)).v ∈ l then some (PyData.int (i : Int)) else none) = (((is.filter fun i : Nat => decide ((w.tie (i : Int)).v ∈ l)).map fun i : Nat => (i : Int)).map PyData.int)
  | [] => rfl
  | i :: is => by
    by_cases h : (w.tie (i : Int)).v ∈ l
    · rw [List.filterMap_cons_some (by rw [if_pos h]), fm_ties w l is, List.filter_cons_of_pos (by simp [h])]
      rfl
    · rw [List.filterMap_cons_none (by rw [if_neg h]), fm_ties w l is, List.filter_cons_of_neg (by simp [h])]
abbrev Cties_of_piece : Cn := fun rs g Q => ∃ (w : Web) (r : Int), rs = [.d (eW w), .d (.int r)] ∧ RmO w r ∧ ∀ l, IsPiece w.ties r l → Q (.own ((tiesIn w l).map .int)) g
def wties_of_piece : WS :=
  (sSeq (sAsg (eCallP Cpiece_of (aCons (eName 0) (aCons (eName 1) aNil))) (gN 2))
  (sRet (eLc (iEnmT (aCons (eIxN 0 (eC (.int 1))) aNil)) (gT 2 (gsCons (gN 3) (gsCons (gN 4) gsNil))) (wB (eScR 2 (inD false) (eIxN 4 (eC (.int 0))))) (eName 3) [3, 4])))
theorem lenties_of_piece (rs : List Rv) (g : Option Nat) (Q : Rv → Option Nat → Prop) (h : Cties_of_piece rs g Q) : rs.length = 2 := by
  obtain ⟨_, _, rfl, _⟩ := h
  rfl
theorem specties_of_piece (rs : List Rv) (g : Option Nat) (Q : Rv → Option Nat → Prop) (h : Cties_of_piece rs g Q) : wties_of_piece (startC 5 rs g) (endP Q) fun _ _ => False := by
  obtain ⟨w, r, rfl, R, hQ⟩ := h
  have eW1 : ∀ q : Px → Prop, ixD (eW w) (.int 1) q = q (.tuple (w.ties.map eT)) := fun q => by unfold eW; rw [ixt1]
  simp only [wties_of_piece]
  simp -dsimp only [startC, List.map_cons, List.map_nil, List.cons_append, List.nil_append, List.length_cons, List.length_nil, Nat.reduceSub, Nat.reduceAdd, List.replicate_succ, List.replicate_zero]
  try simp -dsimp only [rR_]
  refine ⟨w, 1000, r, rfl, ⟨R.wo, R.tl, R.rl, R.r0, R.r1⟩, fun l hl => ?_⟩
  simp -dsimp only [rR_, tupI, eW1]
  refine ⟨by simp [nown], ?_⟩
  simp only [lcH]
  rw [enumX_map eT ⟨0, 0, 1, 1⟩]
  refine lcW_fma (fun i : Nat => PyData.tuple [.int (i : Int), eT (w.ties.getD i ⟨0, 0, 1, 1⟩)]) (fun i : Nat => if (w.tie (i : Int)).v ∈ l then some (PyData.int (i : Int)) else none) (List.range w.ties.length) [] (fun i hi R' S hR hS => ?_) (by simp; exact Nat.le_trans R.tl (by decide)) ?_
  · have hi : i < w.ties.length := List.mem_range.mp hi
    have et : w.ties.getD i ⟨0, 0, 1, 1⟩ = w.tie (i : Int) := by
      unfold Web.tie
      rw [show ((i : Int)).toNat = i from rfl, List.getD_eq_getElem?_getD]
    rw [et]
    simp -dsimp only [rR_, Turn1, wipeE, eT]
    rw [inF_t]
    try simp -dsimp only [rR_]
    by_cases hm : (w.tie (i : Int)).v ∈ l
    · rw [if_pos hm]
      exact hR _ (if_pos hm)
    · rw [if_neg hm]
      exact hS (if_neg hm)
  · rw [List.nil_append, fm_ties]
    try simp -dsimp only [rR_]
    exact hQ l hl
theorem fm_outs (ts : List Int) : ∀ cs : List (Int × Int), cs.filterMap (fun c => if c.1 ∈ ts then some (eC2 c) else none) = (cs.filter fun c => decide (c.1 ∈ ts)).map eC2
  | [] => rfl
  | c :: cs => by
    by_cases h : c.1 ∈ ts
    · rw [List.filterMap_cons_some (by rw [if_pos h]), fm_outs ts cs, List.filter_cons_of_pos (by simp [h])]
      rfl
    · rw [List.filterMap_cons_none (by rw [if_neg h]), fm_outs ts cs, List.filter_cons_of_neg (by simp [h])]
abbrev Cways_over : Cn := fun rs g Q => ∃ (w : Web) (r : Int) (ts : List Int), rs = [.d (eW w), .d (.int r), .d (.list (ts.map .int))] ∧ w.ties.length ≤ 1000 ∧ Q (.own ((outsT w ts r).map eC2)) g
def wways_over : WS :=
  (sRet (eLc (iTpl (eCallP Cways_out (aCons (eName 0) (aCons (eName 1) aNil)))) (gT 2 (gsCons (gN 3) (gsCons (gN 4) gsNil))) (wB (eScR 2 (inD false) (eName 3))) (eTup (aCons (eName 3) (aCons (eName 4) aNil))) [3, 4]))
theorem lenways_over (rs : List Rv) (g : Option Nat) (Q : Rv → Option Nat → Prop) (h : Cways_over rs g Q) : rs.length = 3 := by
  obtain ⟨_, _, _, rfl, _⟩ := h
  rfl
theorem specways_over (rs : List Rv) (g : Option Nat) (Q : Rv → Option Nat → Prop) (h : Cways_over rs g Q) : wways_over (startC 5 rs g) (endP Q) fun _ _ => False := by
  obtain ⟨w, r, ts, rfl, tl, hQ⟩ := h
  simp only [wways_over]
  simp -dsimp only [startC, List.map_cons, List.map_nil, List.cons_append, List.nil_append, List.length_cons, List.length_nil, Nat.reduceSub, Nat.reduceAdd, List.replicate_succ, List.replicate_zero]
  try simp -dsimp only [rR_]
  refine ⟨w, r, rfl, tl, ?_⟩
  try simp -dsimp only [rR_]
  refine ⟨by simp [nown], ?_⟩
  simp only [lcH]
  have ol := outs_len w r
  refine lcW_fma eC2 (fun c => if c.1 ∈ ts then some (eC2 c) else none) (outs w r) [] (fun c hc R' S hR hS => ?_) (by simp; omega) ?_
  · simp -dsimp only [rR_, Turn1, wipeE, eC2]
    rw [inF_l]
    try simp -dsimp only [rR_]
    by_cases hm : c.1 ∈ ts
    · rw [if_pos hm]
      exact ⟨by decide, hR _ (if_pos hm)⟩
    · rw [if_neg hm]
      exact hS (if_neg hm)
  · rw [List.nil_append, fm_outs]
    try simp -dsimp only [rR_]
    exact hQ
theorem outsT_ok {w : Web} {ts : List Int} {r : Int} {c : Int × Int} (h : c ∈ outsT w ts r) : CrOk w c.1 c.2 ∧ (eCr w c).v = r ∧ c.1 ∈ ts := by
  obtain ⟨h1, h2⟩ := List.mem_filter.mp h
  obtain ⟨a, b⟩ := outs_ok h1
  obtain ⟨x, hx⟩ := a.1
  exact ⟨a, by rw [show eCr w c = rev x c.2 from e_of (s := ⟨c.1, c.2, 0⟩) hx]; exact b x hx, by simpa using h2⟩
end K
set_option Elab.async false
set_option maxRecDepth 100000
set_option linter.all false
set_option autoImplicit false
set_option maxHeartbeats 4000000
namespace K
open PySem L2 Dl
variable [TabF]
def stp0 (c : Int × Int) : Stp := ⟨c.1, c.2, 0⟩
def barW (r : Int) (cs : List (Int × Int)) : Wlk := ⟨r, 0, cs.map stp0⟩
abbrev Hom := List (Int × List (Int × Int))
def eWm (r : Int) (h : Hom) : List (Int × Px) := h.map fun p => (p.1, eK (barW r p.2))
def treeOf (h : Hom) : List Int := h.filterMap fun p => p.2.getLast?.map (·.1)
theorem eWm_keys (r : Int) (h : Hom) : keysD (eWm r h) = h.map (·.1) := by
  unfold keysD eWm
  rw [List.map_map]
  rfl
theorem eWm_look {r : Int} {h : Hom} {a : Int} (ha : a ∈ h.map (·.1)) : lookD (eWm r h) a = some (eK (barW r (csOf h a))) := by
  induction h with
  | nil => cases ha
  | cons p h ih =>
    obtain ⟨b, cs⟩ := p
    by_cases e : b = a
    · subst e
      simp [lookD, eWm, csOf]
    · have ha : a ∈ h.map (·.1) := by
        rw [List.map_cons] at ha
        rcases List.mem_cons.mp ha with z | z
        · exact absurd z.symm e
        · exact z
      have ec : csOf ((b, cs) :: h) a = csOf h a := by
        unfold csOf
        rw [List.find?_cons_of_neg (by simpa using e)]
      rw [ec, ← ih ha]
      simp [lookD, eWm, e]
theorem eWm_none {r : Int} {h : Hom} {a : Int} (ha : ¬ a ∈ h.map (·.1)) : lookD (eWm r h) a = none := by
  unfold lookD eWm
  rw [List.find?_eq_none.mpr]
  · rfl
  · intro p hp
    obtain ⟨q, hq, rfl⟩ := List.mem_map.mp hp
    simp only [decide_eq_true_eq]
    intro z
    exact ha (List.mem_map.mpr ⟨q, hq, z⟩)
theorem eWm_put {r : Int} {h : Hom} {a : Int} {cs : List (Int × Int)} (ha : ¬ a ∈ h.map (·.1)) : putD (eWm r h) a (eK (barW r cs)) = eWm r (h ++ [(a, cs)]) := by
  unfold putD
  rw [if_neg]
  · simp [eWm]
  · intro z
    rw [List.any_eq_true] at z
    obtain ⟨p, hp, e⟩ := z
    obtain ⟨q, hq, rfl⟩ := List.mem_map.mp hp
    exact ha (List.mem_map.mpr ⟨q, hq, by simpa using e⟩)
theorem tree_put (h : Hom) (x : Int) (cs : List (Int × Int)) (c : Int × Int) : treeOf (h ++ [(x, cs ++ [c])]) = treeOf h ++ [c.1] := by
  unfold treeOf
  rw [List.filterMap_append]
  simp
theorem noLK_wm (r : Int) (h : Hom) : (eWm r h).length = h.length := by unfold eWm; rw [List.length_map]
theorem tree_len (h : Hom) : (treeOf h).length ≤ h.length := List.length_filterMap_le _ _
abbrev Cfirst_ways : Cn := fun rs g Q => ∃ (w : Web) (r : Int) (ts : List Int), rs = [.d (eW w), .d (.int r), .d (.list (ts.map .int))] ∧ RmO w r ∧ ∀ h, Hm w r h → (∀ a ∈ h.map (·.1), ∀ c ∈ outsT w ts a, (eCr w c).w ∈ h.map (·.1)) → BF w (outsT w ts) [(r, [])] [r] h → Q (.d (.tuple [eDc (eWm r h), .list ((treeOf h).map .int)])) g
def wfirst_ways : WS :=
  (sSeq (sAsg (eDisp1 (eName 1) (eTup (aCons (eName 1) (aCons (eC (.int 0)) (aCons (eTup aNil) aNil))))) (gN 3))
  (sSeq (sAsg (eLst aNil) (gN 4))
  (sSeq (sAsg (eLst (aCons (eName 1) aNil)) (gN 5))
  (sSeq (sWh (wTruN 5)
  (sSeq (sAsg (ePop0 5) (gN 6))
  (sFor (iLst (eCallP Cways_over (aCons (eName 0) (aCons (eName 6) (aCons (eName 2) aNil))))) (gT 2 (gsCons (gN 7) (gsCons (gN 8) gsNil)))
  (sSeq (sAsg (eIx (eCallP Cends_of (aCons (eName 0) (aCons (eName 7) (aCons (eName 8) aNil)))) (eC (.int 1))) (gN 9))
  (sIf (wB (eDIn true 3 (eName 9))) (sSeq (sDctP 3 (eTup (aCons (eName 1) (aCons (eC (.int 0)) (aCons (eOp addD (eIx (eDIx 3 (eName 6)) (eC (.int 2))) (eTup (aCons (eTup (aCons (eName 7) (aCons (eName 8) (aCons (eC (.int 0)) aNil)))) aNil))) aNil)))) (eName 9))
  (sSeq (sExp (eApp 4 (eName 7)))
  (sExp (eApp 5 (eName 9))))) sNil)))))
  (sRet (eTup (aCons (eFrz 3) (aCons (eName 4) aNil))))))))
theorem lenfirst_ways (rs : List Rv) (g : Option Nat) (Q : Rv → Option Nat → Prop) (h : Cfirst_ways rs g Q) : rs.length = 3 := by
  obtain ⟨_, _, _, rfl, _⟩ := h
  rfl
theorem specfirst_ways (rs : List Rv) (g : Option Nat) (Q : Rv → Option Nat → Prop) (h : Cfirst_ways rs g Q) : wfirst_ways (startC 10 rs g) (endP Q) fun _ _ => False := by
  obtain ⟨w, r, ts, rfl, R, hQ⟩ := h
  have wo := R.wo
  have ht := R.tl
  have hr := R.rl
  have h0 := R.r0
  have h1 := R.r1
  simp only [wfirst_ways]
  simp -dsimp only [startC, List.map_cons, List.map_nil, List.cons_append, List.nil_append, List.length_cons, List.length_nil, Nat.reduceSub, Nat.reduceAdd, List.replicate_succ, List.replicate_zero]
  try simp -dsimp only [rR_]
  refine ⟨by decide, by decide, by decide, ?_⟩
  simp -dsimp only [rR_, sWh]
  refine ⟨by decide, ?_⟩
  refine whW_ind (fun c => ∃ (h : Hom) (pend : List Int) (x6 x7 x8 x9 : Option Px), Hm w r h ∧ (∀ a ∈ pend, a ∈ h.map (·.1)) ∧ (∀ a ∈ h.map (·.1), a ∈ pend ∨ ∀ c ∈ outsT w ts a, (eCr w c).w ∈ h.map (·.1)) ∧ pend.length ≤ h.length ∧ (∀ z, BF w (outsT w ts) h pend z → BF w (outsT w ts) [(r, [])] [r] z) ∧
    c = ⟨[some (.d (eW w)), some (.d (.int r)), some (.d (.list (ts.map .int))), some (.dic (.k (eWm r h))), some (.own ((treeOf h).map .int)), some (.own (pend.map .int)), x6.map .d, x7.map .d, x8.map .d, x9.map .d], g⟩) (fun c => 2 * unmet w.rooms.toNat (slotK c.env[3]?) + slotN c.env[5]?) (fun c hI R' hR => ?_) _ ⟨[(r, [])], [r], none, none, none, none, ⟨by simp, ?_, ?_⟩, by simp, by simp, by simp, fun z hz => hz, rfl⟩
  · obtain ⟨h, pend, x6, x7, x8, x9, H, hp, hc, hl, hT, rfl⟩ := hI
    have hrm : h.length ≤ 1000 := by have := H.un; omega
    have htl := tree_len h
    cases pend with
    | nil =>
      simp -dsimp only [rR_, wTruN, List.map_nil, truD]
      exact ⟨by decide, hQ h H (fun a ha => (hc a ha).resolve_left (by simp)) (hT h .stop)⟩
    | cons a ps =>
      have ha := hp a (by simp)
      simp -dsimp only [rR_, wTruN, List.map_cons, truD]
      rw [if_pos (by simp)]
      refine ⟨w, a, ts, rfl, ht, ?_⟩
      try simp -dsimp only [rR_]
      simp only [forH]
      refine forW_ind _ (fun i c => ∃ (h' : Hom) (pend' : List Int) (x7 x8 x9 : Option Px), Hm w r h' ∧ a ∈ h'.map (·.1) ∧ (∀ b ∈ pend', b ∈ h'.map (·.1)) ∧ (∀ b ∈ h'.map (·.1), b = a ∨ b ∈ pend' ∨ ∀ c ∈ outsT w ts b, (eCr w c).w ∈ h'.map (·.1)) ∧ (∀ j c, j < i → (outsT w ts a)[j]? = some c → (eCr w c).w ∈ h'.map (·.1)) ∧
        pend'.length + 1 ≤ h'.length ∧ 2 * unmet w.rooms.toNat (h'.map (·.1)) + pend'.length ≤ 2 * unmet w.rooms.toNat (h.map (·.1)) + ps.length ∧ ((outsT w ts a).take i).foldl (vis w a) (h, ps) = (h', pend') ∧
        c = ⟨[some (.d (eW w)), some (.d (.int r)), some (.d (.list (ts.map .int))), some (.dic (.k (eWm r h'))), some (.own ((treeOf h').map .int)), some (.own (pend'.map .int)), some (.d (.int a)), x7.map .d, x8.map .d, x9.map .d], g⟩) (fun i x c hx hI R'' hR' => ?_) (fun c hI => ?_) _ ⟨h, ps, x7, x8, x9, H, ha, fun b hb => hp b (by simp [hb]), fun b hb => ?_, fun j c hj => absurd hj (Nat.not_lt_zero _), by simp at hl; omega, by omega, rfl, rfl⟩
      · obtain ⟨h', pend', x7, x8, x9, H', ha', hp', hc', ho', hl', hm', hF, rfl⟩ := hI
        have hrm' : h'.length ≤ 1000 := by have := H'.un; omega
        have htl' := tree_len h'
        obtain ⟨⟨t, s⟩, hts, rfl⟩ := map_at hx
        obtain ⟨hcr, hv, _⟩ := outsT_ok (List.mem_of_getElem? hts)
        obtain ⟨y, hy⟩ := hcr.1
        have he : eCr w (t, s) = rev y s := e_of (s := ⟨t, s, 0⟩) hy
        have tok := (wo.at hy).rev s
        have hF1 := foldl_take (vis w a) (h, ps) hts
        rw [hF] at hF1
        simp -dsimp only [rR_, eC2]
        refine ⟨w, t, s, y, rfl, hy, ?_⟩
        simp -dsimp only [rR_, eT]
        rw [← he] at tok ⊢
        by_cases hk : (eCr w (t, s)).w ∈ h'.map (·.1)
        · rw [eWm_look hk]
          simp -dsimp only [rR_, Option.isSome_some, Bool.not_true]
          refine hR' _ ⟨h', pend', some (.int t), some (.int s), some (.int (eCr w (t, s)).w), H', ha', hp', hc', fun j c hj hcj => ?_, hl', hm', (by rw [hF1]; unfold vis; rw [if_pos hk]), rfl⟩
          by_cases hji : j = i
          · rw [hji, hts] at hcj
            cases hcj
            exact hk
          · exact ho' j c (by omega) hcj
        · rw [eWm_none hk]
          have hcs := (eHm_look2 ha').1
          have hlk := eWm_look (r := r) ha'
          have hF2 : vis w a (h', pend') (t, s) = (h' ++ [((eCr w (t, s)).w, csOf h' a ++ [(t, s)])], pend' ++ [(eCr w (t, s)).w]) := by unfold vis; rw [if_neg hk]
          generalize csOf h' a = cs at hcs hlk hF2
          simp -dsimp only [rR_, Option.isSome_none, Bool.not_false]
          refine ⟨_, hlk, ?_⟩
          obtain ⟨q1, q2, q3, q4, q5⟩ := H'.en _ hcs
          have q3 : cs.length + 1 ≤ h'.length := q3
          have Ha := H'.add hcs hcr hv tok.w0 tok.w1 hk
          have hu := unmet_lt (n := w.rooms.toNat) tok.w0 (by have := tok.w1; omega) hk
          have et : (PyData.tuple [.int r, .int 0, .tuple ((barW r cs).steps.map eS ++ [PyData.tuple [.int t, .int s, .int 0]])] : Px) = eK (barW r (cs ++ [(t, s)])) := by
            simp [barW, stp0, eS, eK]
          have bl : ((barW r cs).steps.map eS).length = cs.length := by simp [barW]
          have pu := eWm_put (r := r) (cs := cs ++ [(t, s)]) hk
          simp -dsimp only [rR_, eK, ixt2]
          rw [et, pu, bl]
          refine ⟨by decide, by decide, by omega, by decide, by rw [noLK_wm]; omega, by rw [List.length_map]; omega, by rw [List.length_map]; omega, ?_⟩
          refine hR' _ ⟨h' ++ [((eCr w (t, s)).w, cs ++ [(t, s)])], pend' ++ [(eCr w (t, s)).w], some (.int t), some (.int s), some (.int (eCr w (t, s)).w), Ha, by simp at ha' ⊢; exact .inl ha', fun b hb => ?_, fun b hb => ?_, fun j c hj hcj => ?_, by simp; omega, ?_, (by rw [hF1, hF2]), by rw [tree_put]; simp⟩
          · rw [List.map_append]
            rcases List.mem_append.mp hb with hb | hb
            · exact List.mem_append_left _ (hp' b hb)
            · exact List.mem_append_right _ hb
          · rw [List.map_append] at hb ⊢
            rcases List.mem_append.mp hb with hb | hb
            · rcases hc' b hb with z | z | z
              · exact .inl z
              · exact .inr (.inl (List.mem_append_left _ z))
              · exact .inr (.inr fun c hc => List.mem_append_left _ (z c hc))
            · exact .inr (.inl (List.mem_append_right _ hb))
          · rw [List.map_append]
            by_cases hji : j = i
            · rw [hji, hts] at hcj
              cases hcj
              exact List.mem_append_right _ (by simp)
            · exact List.mem_append_left _ (ho' j c (by omega) hcj)
          · rw [List.map_append, List.length_append]
            show 2 * unmet _ (h'.map (·.1) ++ [(eCr w (t, s)).w]) + (pend'.length + 1) ≤ _
            omega
      · obtain ⟨h', pend', x7, x8, x9, H', ha', hp', hc', ho', hl', hm', hF, rfl⟩ := hI
        rw [List.length_map] at ho' hF
        rw [List.take_length] at hF
        refine hR _ ⟨h', pend', some (.int a), x7, x8, x9, H', hp', fun b hb => ?_, by omega, fun z hz => hT z (.go (by rw [hF]; exact hz)), rfl⟩ ?_
        · rcases hc' b hb with rfl | z | z
          · refine .inr fun c hc => ?_
            obtain ⟨j, hj⟩ := List.getElem?_of_mem hc
            exact ho' j c (List.getElem?_eq_some_iff.mp hj).1 hj
          · exact .inl z
          · exact .inr z
        · show 2 * unmet _ (keysD (eWm r h')) + (pend'.map PyData.int).length < 2 * unmet _ (keysD (eWm r h)) + ((a :: ps).map PyData.int).length
          rw [eWm_keys, eWm_keys, List.length_map, List.length_map, List.length_cons]
          omega
      · rcases hc b hb with z | z
        · rcases List.mem_cons.mp z with z | z
          · exact .inl z
          · exact .inr (.inl z)
        · exact .inr (.inr z)
  · intro p hp
    have : p = (r, []) := by simpa using hp
    subst this
    exact ⟨fun c hc => (nomatch hc), .nil, by simp, h0, h1⟩
  · have h2 := unmet_lt (n := w.rooms.toNat) (ks := []) h0 (by omega) (by simp)
    rw [List.nil_append] at h2
    have := unmet_le w.rooms.toNat []
    show 1 + unmet w.rooms.toNat [r] ≤ _
    omega
end K
set_option Elab.async false
set_option maxRecDepth 100000
set_option linter.all false
set_option autoImplicit false
set_option maxHeartbeats 4000000
namespace K
open PySem L2 Dl
variable [TabF]
/-! ### what is found, and over which ties -/
def FromO (w : Web) (O : Int → List (Int × Int)) : Prop := ∀ a, ∀ c ∈ O a, CrOk w c.1 c.2 ∧ (eCr w c).v = a
theorem from_outs (w : Web) : FromO w (outs w) := fun a c hc => by
  obtain ⟨h1, h2⟩ := outs_ok hc
  obtain ⟨x, hx⟩ := h1.1
  exact ⟨h1, by rw [show eCr w c = rev x c.2 from e_of (s := ⟨c.1, c.2, 0⟩) hx]; exact h2 x hx⟩
theorem from_outsT (w : Web) (ts : List Int) : FromO w (outsT w ts) := fun a c hc => by
  obtain ⟨h1, h2, _⟩ := outsT_ok hc
  exact ⟨h1, h2⟩
theorem cr_conn {w : Web} {c : Int × Int} (h : CrOk w c.1 c.2) : Conn w.ties (eCr w c).v (eCr w c).w := by
  obtain ⟨⟨x, hx⟩, hs⟩ := h
  have e : eCr w c = rev x c.2 := e_of (s := ⟨c.1, c.2, 0⟩) hx
  have hm : x ∈ w.ties := by
    obtain ⟨i, _, e⟩ := hx
    exact List.mem_of_getElem? e
  rw [e]
  refine .step .refl ⟨x, hm, ?_⟩
  unfold rev
  split
  · exact .inl ⟨rfl, rfl⟩
  · exact .inr ⟨rfl, rfl⟩
theorem outs_in {w : Web} {r : Int} {l : List Int} (hl : IsPiece w.ties r l) {a : Int} (ca : Conn w.ties r a) : outsT w (tiesIn w l) a = outs w a := by
  unfold outsT
  rw [List.filter_eq_self]
  intro c hc
  obtain ⟨h1, h2⟩ := from_outs w a c hc
  obtain ⟨⟨x, hx⟩, hs⟩ := h1
  obtain ⟨i, hi, e⟩ := hx
  have hlt := (List.getElem?_eq_some_iff.mp e).1
  have hx : Web.at w c.1 x := ⟨i, hi, e⟩
  have ec : eCr w c = rev x c.2 := e_of (s := ⟨c.1, c.2, 0⟩) hx
  have cn := cr_conn (w := w) (c := c) ⟨⟨x, hx⟩, hs⟩
  have hv : Conn w.ties r x.v := by
    rw [h2] at cn
    rw [ec] at cn h2
    unfold rev at cn h2
    split at h2
    · rw [h2]
      exact ca
    · rw [if_neg (by assumption)] at cn
      exact ca.trans cn
  refine decide_eq_true (List.mem_map.mpr ⟨i, List.mem_filter.mpr ⟨List.mem_range.mpr hlt, ?_⟩, hi.symm⟩)
  rw [tie_at e]
  exact decide_eq_true ((hl.mem _).mpr hv)
theorem vis_pend {w : Web} {here : Int} : ∀ (cs : List (Int × Int)) (s : Hom × List Int), ∀ p ∈ (cs.foldl (vis w here) s).2, p ∈ s.2 ∨ ∃ c ∈ cs, p = (eCr w c).w
  | [], s, p, hp => .inl hp
  | c :: cs, s, p, hp => by
    rcases vis_pend cs (vis w here s c) p hp with z | ⟨d, hd, e⟩
    · unfold vis at z
      split at z
      · exact .inl z
      · rcases List.mem_append.mp z with z | z
        · exact .inl z
        · exact .inr ⟨c, by simp, by simpa using z⟩
    · exact .inr ⟨d, List.mem_cons_of_mem _ hd, e⟩
theorem bf_all {w : Web} {r : Int} {l : List Int} (hl : IsPiece w.ties r l) {h z : Hom} {ps : List Int} (H : BF w (outsT w (tiesIn w l)) h ps z) : (∀ p ∈ ps, Conn w.ties r p) → BF w (outs w) h ps z := by
  induction H with
  | stop => exact fun _ => .stop
  | @go h z p ps _ ih =>
    intro hp
    have cp := hp p (by simp)
    have e := outs_in hl cp
    rw [e] at ih
    refine .go (ih fun q hq => ?_)
    rcases vis_pend _ _ q hq with z | ⟨c, hc, e⟩
    · exact hp q (List.mem_cons_of_mem _ z)
    · obtain ⟨h1, h2⟩ := from_outs w p c hc
      have := cr_conn h1
      rw [h2] at this
      rw [e]
      exact cp.trans this
theorem vis_app {w : Web} {here : Int} : ∀ (cs : List (Int × Int)) (s : Hom × List Int), ∃ t, (cs.foldl (vis w here) s).1 = s.1 ++ t
  | [], s => ⟨[], by simp⟩
  | c :: cs, s => by
    obtain ⟨t, e⟩ := vis_app cs (vis w here s c)
    have e : (List.foldl (vis w here) s (c :: cs)).1 = (vis w here s c).1 ++ t := e
    obtain ⟨u, hu⟩ : ∃ u, (vis w here s c).1 = s.1 ++ u := by
      unfold vis
      split
      · exact ⟨[], by simp⟩
      · exact ⟨_, rfl⟩
    exact ⟨u ++ t, by rw [e, hu, List.append_assoc]⟩
theorem bf_app {w : Web} {O : Int → List (Int × Int)} {h z : Hom} {ps : List Int} (H : BF w O h ps z) : ∃ t, z = h ++ t := by
  induction H with
  | stop => exact ⟨[], by simp⟩
  | @go h z p ps _ ih =>
    obtain ⟨t, e⟩ := ih
    obtain ⟨u, e2⟩ := vis_app (w := w) (here := p) (O p) (h, ps)
    rw [e2] at e
    exact ⟨u ++ t, by rw [e, List.append_assoc]⟩
/-- every row but the first one is another row and a crossing more -/
def Tr (w : Web) (r : Int) (h : Hom) : Prop := ∀ p ∈ h, (p.2 = [] ∧ p.1 = r) ∨ ∃ cs c, p.2 = cs ++ [c] ∧ ((eCr w c).v, cs) ∈ h ∧ (eCr w c).w = p.1 ∧ CrOk w c.1 c.2
theorem vis_tr {w : Web} {r here : Int} : ∀ (cs : List (Int × Int)) (s : Hom × List Int), (∀ c ∈ cs, CrOk w c.1 c.2 ∧ (eCr w c).v = here) → here ∈ s.1.map (·.1) → Tr w r s.1 → (∀ p ∈ s.2, p ∈ s.1.map (·.1)) →
    Tr w r (cs.foldl (vis w here) s).1 ∧ ∀ p ∈ (cs.foldl (vis w here) s).2, p ∈ (cs.foldl (vis w here) s).1.map (·.1)
  | [], s, _, _, ht, hp => ⟨ht, hp⟩
  | c :: cs, s, hc, hh, ht, hp => by
    have k : Tr w r (vis w here s c).1 ∧ (∀ p ∈ (vis w here s c).2, p ∈ (vis w here s c).1.map (·.1)) ∧ here ∈ (vis w here s c).1.map (·.1) := by
      unfold vis
      split
      · exact ⟨ht, hp, hh⟩
      · obtain ⟨c1, c2⟩ := hc c (by simp)
        refine ⟨fun p hp2 => ?_, fun p hp2 => ?_, ?_⟩
        · rcases List.mem_append.mp hp2 with z | z
          · rcases ht p z with y | ⟨cs', d, y1, y2, y3⟩
            · exact .inl y
            · exact .inr ⟨cs', d, y1, List.mem_append_left _ y2, y3⟩
          · have e : p = ((eCr w c).w, csOf s.1 here ++ [c]) := by simpa using z
            rw [e]
            exact .inr ⟨csOf s.1 here, c, rfl, List.mem_append_left _ (by rw [c2]; exact (eHm_look2 hh).1), rfl, c1⟩
        · show p ∈ (s.1 ++ [((eCr w c).w, csOf s.1 here ++ [c])]).map (·.1)
          rw [List.map_append]
          rcases List.mem_append.mp hp2 with z | z
          · exact List.mem_append_left _ (hp p z)
          · exact List.mem_append_right _ z
        · show here ∈ (s.1 ++ [((eCr w c).w, csOf s.1 here ++ [c])]).map (·.1)
          rw [List.map_append]
          exact List.mem_append_left _ hh
    exact vis_tr cs (vis w here s c) (fun d hd => hc d (List.mem_cons_of_mem _ hd)) k.2.2 k.1 k.2.1
theorem bf_tr {w : Web} {r : Int} {O : Int → List (Int × Int)} (hO : FromO w O) {h z : Hom} {ps : List Int} (H : BF w O h ps z) : Tr w r h → (∀ p ∈ ps, p ∈ h.map (·.1)) → Tr w r z := by
  induction H with
  | stop => exact fun ht _ => ht
  | @go h z p ps _ ih =>
    intro ht hp
    obtain ⟨a, b⟩ := vis_tr (w := w) (r := r) (here := p) (O p) (h, ps) (hO p) (hp p (by simp)) ht (fun q hq => hp q (List.mem_cons_of_mem _ hq))
    exact ih a b
theorem tr_start (w : Web) (r : Int) : Tr w r [(r, [])] := fun p hp => by
  rw [List.mem_singleton.mp hp]
  exact .inl ⟨rfl, rfl⟩
/-- what is known of the ways found -/
structure Wy (w : Web) (r : Int) (O : Int → List (Int × Int)) (h : Hom) : Prop where
  hm : Hm w r h
  cl : ∀ a ∈ h.map (·.1), ∀ c ∈ O a, (eCr w c).w ∈ h.map (·.1)
  bf : BF w O [(r, [])] [r] h
  fo : FromO w O
theorem Wy.nd {w : Web} {r : Int} {O : Int → List (Int × Int)} {h : Hom} (W : Wy w r O h) : (h.map (·.1)).Nodup := hm_nodup W.hm
theorem Wy.tr {w : Web} {r : Int} {O : Int → List (Int × Int)} {h : Hom} (W : Wy w r O h) : Tr w r h := bf_tr W.fo W.bf (tr_start w r) (by simp)
theorem cs_of {h : Hom} (nd : (h.map (·.1)).Nodup) {x : Int} {cs : List (Int × Int)} (hm : (x, cs) ∈ h) : csOf h x = cs := by
  induction h with
  | nil => cases hm
  | cons p h ih =>
    obtain ⟨b, ds⟩ := p
    obtain ⟨n1, n2⟩ := List.nodup_cons.mp nd
    rcases List.mem_cons.mp hm with z | z
    · cases z
      simp [csOf]
    · have ne : b ≠ x := fun q => n1 (by rw [q]; exact List.mem_map.mpr ⟨_, z, rfl⟩)
      have ec : csOf ((b, ds) :: h) x = csOf h x := by
        unfold csOf
        rw [List.find?_cons_of_neg (by simpa using ne)]
      rw [ec]
      exact ih n2 z
theorem Wy.root {w : Web} {r : Int} {O : Int → List (Int × Int)} {h : Hom} (W : Wy w r O h) : csOf h r = [] := by
  obtain ⟨t, e⟩ := bf_app W.bf
  rw [e]
  simp [csOf]
theorem Wy.uniq {w : Web} {r : Int} {O : Int → List (Int × Int)} {h k : Hom} (W : Wy w r O h) (V : Wy w r O k) : k = h := W.bf.uniq V.bf
theorem bar_st {w : Web} {r : Int} {cs : List (Int × Int)} (h : CsOk w cs) : StepsOk w (barW r cs).steps := fun s hs => by
  obtain ⟨c, hc, rfl⟩ := List.mem_map.mp hs
  exact h c hc
theorem bar_cr (r : Int) (cs : List (Int × Int)) : (barW r cs).steps.map cr = cs := by
  show (cs.map stp0).map cr = cs
  rw [List.map_map]
  exact (List.map_congr_left fun c _ => rfl).trans (List.map_id _)
theorem bar_len (r : Int) (cs : List (Int × Int)) : (barW r cs).steps.length = cs.length := by
  show (cs.map stp0).length = _
  rw [List.length_map]
/-- the way to a room that was found -/
structure WayOk (w : Web) (r x : Int) (cs : List (Int × Int)) : Prop where
  ok : CsOk w cs
  ch : Ch w r cs x
  ln : (cs.length : Int) < w.rooms
theorem Wy.way {w : Web} {r x : Int} {O : Int → List (Int × Int)} {h : Hom} (W : Wy w r O h) (hx : x ∈ h.map (·.1)) : WayOk w r x (csOf h x) := by
  obtain ⟨a, b, c, _, _⟩ := W.hm.en _ (eHm_look2 hx).1
  have u := W.hm.un
  have c : (csOf h x).length + 1 ≤ h.length := c
  exact ⟨a, b, by omega⟩
theorem WayOk.wk {w : Web} {r x : Int} {cs : List (Int × Int)} (h : WayOk w r x cs) (wo : WebOk w 1000) (hr : w.rooms ≤ 300) : WK w (barW r cs) := ⟨wo, bar_st h.ok, by rw [bar_len]; have := h.ln; omega⟩
end K
set_option Elab.async false
set_option maxRecDepth 100000
set_option linter.all false
set_option autoImplicit false
set_option maxHeartbeats 4000000
namespace K
open PySem L2 Dl
variable [TabF]
def notI (r : Int) : Xn := ⟨"NotInOne", [("room", .int r)]⟩
abbrev Cfirst_way : CnX := fun rs g Q Z => ∃ (w : Web) (r o : Int), rs = [.d (eW w), .d (.int r), .d (.int o)] ∧ g = none ∧ RmO w r ∧ ∀ h, Wy w r (outs w) h → (o ∈ h.map (·.1) → Q (.d (eK (barW r (csOf h o)))) g) ∧ (¬ o ∈ h.map (·.1) → Z (notI o) g)
def wfirst_way : WS :=
  (sSeq (sAsg (eIx (eCallP Cfirst_ways (aCons (eName 0) (aCons (eName 1) (aCons (eCallP Cties_of_piece (aCons (eName 0) (aCons (eName 1) aNil))) aNil)))) (eC (.int 0))) (gN 3))
  (sSeq (sIf (wB (eDInF true 3 (eName 2))) (sRaise "NotInOne" "room" (aCons (eName 2) aNil)) sNil)
  (sRet (eDIxF 3 (eName 2)))))
theorem lenfirst_way (rs : List Rv) (g : Option Nat) (Q : Rv → Option Nat → Prop) (Z : Xn → Option Nat → Prop) (h : Cfirst_way rs g Q Z) : rs.length = 3 := by
  obtain ⟨_, _, _, rfl, _⟩ := h
  rfl
theorem specfirst_way (rs : List Rv) (g : Option Nat) (Q : Rv → Option Nat → Prop) (Z : Xn → Option Nat → Prop) (h : Cfirst_way rs g Q Z) : wfirst_way (startC 4 rs g) (endP Q) Z := by
  obtain ⟨w, r, o, rfl, rfl, R, hQ⟩ := h
  simp only [wfirst_way]
  simp -dsimp only [startC, List.map_cons, List.map_nil, List.cons_append, List.nil_append, List.length_cons, List.length_nil, Nat.reduceSub, Nat.reduceAdd, List.replicate_succ, List.replicate_zero]
  try simp -dsimp only [rR_]
  refine ⟨w, r, rfl, R, fun l hl => ?_⟩
  try simp -dsimp only [rR_]
  refine ⟨w, r, tiesIn w l, rfl, R, fun h H hc hb => ?_⟩
  have hb := bf_all hl hb (fun p hp => by rw [List.mem_singleton.mp hp]; exact .refl)
  have cn : ∀ a ∈ h.map (·.1), Conn w.ties r a := fun a ha => by
    obtain ⟨p, hp, rfl⟩ := List.mem_map.mp ha
    obtain ⟨q1, q2, _⟩ := H.en p hp
    exact ch_conn q2 q1
  have W : Wy w r (outs w) h := ⟨H, fun a ha c hc2 => hc a ha c (by rw [outs_in hl (cn a ha)]; exact hc2), hb, from_outs w⟩
  obtain ⟨hq, hz⟩ := hQ h W
  try simp -dsimp only [rR_]
  by_cases ho : o ∈ h.map (·.1)
  · have e := eWm_look (r := r) ho
    rw [e]
    simp -dsimp only [rR_, Option.isSome_some, Bool.not_true]
    exact ⟨_, rfl, hq ho⟩
  · rw [eWm_none ho]
    simp -dsimp only [rR_, Option.isSome_none, Bool.not_false, sRaise]
    exact hz ho
def ringW (w : Web) (r : Int) (h : Hom) (t : Int) : Wlk := joinL (barW r (csOf h (w.tie t).v)) [⟨(w.tie t).v, 0, [stp0 (t, 1)]⟩, backW w (barW r (csOf h (w.tie t).w))]
def ringsOf (w : Web) (r : Int) (h : Hom) (ts : List Int) : List Wlk := (ts.filter fun t => decide (¬ t ∈ treeOf h)).map (ringW w r h)
def turnW (w : Web) (r : Int) (p : Int × List (Int × Int)) : Wlk := joinL (barW r p.2) [⟨p.1, 1, []⟩, backW w (barW r p.2)]
abbrev Crings_over : Cn := fun rs g Q => ∃ (w : Web) (r : Int) (ts : List Int), rs = [.d (eW w), .d (.int r), .d (.list (ts.map .int))] ∧ g = none ∧ RmO w r ∧ w.rooms ≤ 300 ∧ ts.length ≤ 1000 ∧ (∀ t ∈ ts, ∃ x, Web.at w t x) ∧
  ∀ h, Wy w r (outsT w ts) h → (∀ t ∈ ts, (w.tie t).v ∈ h.map (·.1) ∧ (w.tie t).w ∈ h.map (·.1)) ∧ Q (.d (.tuple ((ringsOf w r h ts).map eK))) g
def wrings_over : WS :=
  (sSeq (sAsg (eCallP Cfirst_ways (aCons (eName 0) (aCons (eName 1) (aCons (eName 2) aNil)))) (gT 2 (gsCons (gN 3) (gsCons (gN 4) gsNil))))
  (sSeq (sAsg (eLst aNil) (gN 5))
  (sSeq (sFor (iLst (eName 2)) (gN 6)
  (sIf (wB (eScR 4 (inD true) (eName 6))) (sSeq (sAsg (eCallP Cends_of (aCons (eName 0) (aCons (eName 6) (aCons (eC (.int 1)) aNil)))) (gT 4 (gsCons (gN 7) (gsCons (gN 8) (gsCons (gN 9) (gsCons (gN 9) gsNil))))))
  (sSeq (sAsg (eTup (aCons (eName 7) (aCons (eC (.int 0)) (aCons (eTup (aCons (eTup (aCons (eName 6) (aCons (eC (.int 1)) (aCons (eC (.int 0)) aNil)))) aNil)) aNil)))) (gN 10))
  (sExp (eApp 5 (eCallP Cjoined_of_any_size (aCons (eLst (aCons (eDIxF 3 (eName 7)) (aCons (eName 10) (aCons (eCallP Copposite_walk (aCons (eName 0) (aCons (eDIxF 3 (eName 8)) aNil))) aNil)))) aNil)))))) sNil))
  (sRet (eCB tupC (aCons (eName 5) aNil))))))
theorem lenrings_over (rs : List Rv) (g : Option Nat) (Q : Rv → Option Nat → Prop) (h : Crings_over rs g Q) : rs.length = 3 := by
  obtain ⟨_, _, _, rfl, _⟩ := h
  rfl
theorem specrings_over (rs : List Rv) (g : Option Nat) (Q : Rv → Option Nat → Prop) (h : Crings_over rs g Q) : wrings_over (startC 11 rs g) (endP Q) fun _ _ => False := by
  obtain ⟨w, r, ts, rfl, rfl, R, hr, tl, hat, hQ⟩ := h
  have wo := R.wo
  simp only [wrings_over]
  simp -dsimp only [startC, List.map_cons, List.map_nil, List.cons_append, List.nil_append, List.length_cons, List.length_nil, Nat.reduceSub, Nat.reduceAdd, List.replicate_succ, List.replicate_zero]
  try simp -dsimp only [rR_]
  refine ⟨w, r, ts, rfl, R, fun h H hc hb => ?_⟩
  have W : Wy w r (outsT w ts) h := ⟨H, hc, hb, from_outsT w ts⟩
  obtain ⟨hin, hQ⟩ := hQ h W
  simp -dsimp only [rR_, gT_d]
  simp only [forH]
  refine ⟨by decide, ?_⟩
  refine forW_ind _ (fun i c => ∃ (x6 x7 x8 x9 x10 : Option Px), c = ⟨[some (.d (eW w)), some (.d (.int r)), some (.d (.list (ts.map .int))), some (.d (eDc (eWm r h))), some (.d (.list ((treeOf h).map .int))), some (.own ((ringsOf w r h (ts.take i)).map eK)), x6.map .d, x7.map .d, x8.map .d, x9.map .d, x10.map .d], none⟩) (fun i x c hx hI R' hR => ?_) (fun c hI => ?_) _ ⟨none, none, none, none, none, rfl⟩
  · obtain ⟨x6, x7, x8, x9, x10, rfl⟩ := hI
    obtain ⟨t, ht, rfl⟩ := map_at hx
    have tk : ts.take (i + 1) = ts.take i ++ [t] := by rw [List.take_succ, ht]; rfl
    have htm := List.mem_of_getElem? ht
    obtain ⟨y, hy⟩ := hat t htm
    obtain ⟨iv, iw⟩ := hin t htm
    have ty := hy.tie
    have ro : ∀ l : List Int, ringsOf w r h (l ++ [t]) = ringsOf w r h l ++ (if t ∈ treeOf h then [] else [ringW w r h t]) := fun l => by
      unfold ringsOf
      rw [List.filter_append, List.map_append]
      by_cases z : t ∈ treeOf h
      · rw [if_pos z, List.filter_cons_of_neg (by simp [z])]
        rfl
      · rw [if_neg z, List.filter_cons_of_pos (by simp [z])]
        rfl
    have rl : (ringsOf w r h (ts.take i)).length ≤ 1000 := by
      unfold ringsOf
      rw [List.length_map]
      refine Nat.le_trans (List.length_filter_le _ _) ?_
      rw [List.length_take]
      omega
    try simp -dsimp only [rR_]
    rw [inT_l]
    try simp -dsimp only [rR_]
    by_cases hm : t ∈ treeOf h
    · simp -dsimp only [rR_, hm, decide_true, Bool.not_true]
      refine hR _ ⟨some (.int t), x7, x8, x9, x10, ?_⟩
      rw [tk, ro, if_pos hm, List.append_nil]
      rfl
    · simp -dsimp only [rR_, hm, decide_false, Bool.not_false]
      refine ⟨w, t, 1, y, rfl, hy, ?_⟩
      have r1 : rev y 1 = y := rfl
      have lv := eWm_look (r := r) iv
      have lw := eWm_look (r := r) iw
      have Wv := W.way iv
      have Ww := W.way iw
      rw [r1]
      rw [ty] at lv lw Wv Ww
      simp -dsimp only [rR_, gT_d, eT]
      refine ⟨by decide, by decide, by decide, _, lv, _, lw, ?_⟩
      refine ⟨w, _, rfl, Ww.wk wo hr, ?_⟩
      try simp -dsimp only [rR_]
      refine ⟨by decide, barW r (csOf h y.v), [⟨y.v, 0, [stp0 (t, 1)]⟩, backW w (barW r (csOf h y.w))], rfl, ?_, by simp, ?_⟩
      · have a := Wv.ln
        have b := Ww.ln
        unfold lens
        simp only [List.map_cons, List.map_nil, List.sum_cons, List.sum_nil, back_len, bar_len, List.length_cons, List.length_nil]
        omega
      · try simp -dsimp only [rR_]
        refine ⟨by rw [List.length_map]; omega, ?_⟩
        refine hR _ ⟨some (.int t), some (.int y.v), some (.int y.w), some (.int y.q), some (eK ⟨y.v, 0, [stp0 (t, 1)]⟩), ?_⟩
        rw [tk, ro, if_neg hm, List.map_append]
        simp only [List.map_cons, List.map_nil, ringW, ty]
        rfl
  · obtain ⟨x6, x7, x8, x9, x10, rfl⟩ := hI
    rw [List.length_map, List.take_length]
    try simp -dsimp only [rR_]
    exact hQ
/-- the piece's own rings -/
theorem Wy.all {w : Web} {r : Int} {l : List Int} {h : Hom} (hl : IsPiece w.ties r l) (W : Wy w r (outsT w (tiesIn w l)) h) : Wy w r (outs w) h := by
  have cn : ∀ a ∈ h.map (·.1), Conn w.ties r a := fun a ha => by
    obtain ⟨p, hp, rfl⟩ := List.mem_map.mp ha
    obtain ⟨q1, q2, _⟩ := W.hm.en p hp
    exact ch_conn q2 q1
  exact ⟨W.hm, fun a ha c hc2 => W.cl a ha c (by rw [outs_in hl (cn a ha)]; exact hc2), bf_all hl W.bf (fun p hp => by rw [List.mem_singleton.mp hp]; exact .refl), from_outs w⟩
theorem Wy.keys {w : Web} {r : Int} {h : Hom} (W : Wy w r (outs w) h) {a : Int} (c : Conn w.ties r a) : a ∈ h.map (·.1) := by
  induction c with
  | refl => exact W.hm.st
  | step _ a ih =>
    obtain ⟨c, hc', y, hy, e⟩ := adj_out a
    have := W.cl _ ih c hc'
    have he : eCr w c = rev y c.2 := e_of (s := ⟨c.1, c.2, 0⟩) hy
    rw [he, e] at this
    exact this
theorem ties_at {w : Web} {r : Int} {l : List Int} (hl : IsPiece w.ties r l) {t : Int} (ht : t ∈ tiesIn w l) : (∃ x, Web.at w t x) ∧ Conn w.ties r (w.tie t).v ∧ Conn w.ties r (w.tie t).w := by
  obtain ⟨i, hi, rfl⟩ := List.mem_map.mp ht
  obtain ⟨hi, hv⟩ := List.mem_filter.mp hi
  have hi := List.mem_range.mp hi
  have hv : (w.tie (i : Int)).v ∈ l := by simpa using hv
  have cv := (hl.mem _).mp hv
  exact ⟨⟨_, i, rfl, tie_get hi⟩, cv, cv.trans (.step .refl ⟨_, List.mem_of_getElem? (tie_get hi), .inl ⟨rfl, rfl⟩⟩)⟩
theorem tin_len (w : Web) (l : List Int) : (tiesIn w l).length ≤ w.ties.length := by
  unfold tiesIn
  rw [List.length_map]
  refine Nat.le_trans (List.length_filter_le _ _) ?_
  rw [List.length_range]
  exact Nat.le_refl _
abbrev Crings_at : Cn := fun rs g Q => ∃ (w : Web) (r : Int), rs = [.d (eW w), .d (.int r)] ∧ g = none ∧ RmO w r ∧ w.rooms ≤ 300 ∧ ∀ l h, IsPiece w.ties r l → Wy w r (outs w) h → Q (.d (.tuple ((ringsOf w r h (tiesIn w l)).map eK))) g
def wrings_at : WS :=
  (sRet (eCallP Crings_over (aCons (eName 0) (aCons (eName 1) (aCons (eCallP Cties_of_piece (aCons (eName 0) (aCons (eName 1) aNil))) aNil)))))
theorem lenrings_at (rs : List Rv) (g : Option Nat) (Q : Rv → Option Nat → Prop) (h : Crings_at rs g Q) : rs.length = 2 := by
  obtain ⟨_, _, rfl, _⟩ := h
  rfl
theorem specrings_at (rs : List Rv) (g : Option Nat) (Q : Rv → Option Nat → Prop) (h : Crings_at rs g Q) : wrings_at (startC 2 rs g) (endP Q) fun _ _ => False := by
  obtain ⟨w, r, rfl, rfl, R, hr, hQ⟩ := h
  simp only [wrings_at]
  simp -dsimp only [startC, List.map_cons, List.map_nil, List.cons_append, List.nil_append, List.length_cons, List.length_nil, Nat.reduceSub, Nat.reduceAdd, List.replicate_succ, List.replicate_zero]
  try simp -dsimp only [rR_]
  refine ⟨w, r, rfl, R, fun l hl => ?_⟩
  try simp -dsimp only [rR_]
  have tl := tin_len w l
  have rt := R.tl
  refine ⟨w, r, tiesIn w l, rfl, rfl, R, hr, by omega, fun t ht => (ties_at hl ht).1, fun h W => ?_⟩
  have V := W.all hl
  refine ⟨fun t ht => ⟨V.keys (ties_at hl ht).2.1, V.keys (ties_at hl ht).2.2⟩, ?_⟩
  try simp -dsimp only [rR_]
  exact hQ l h hl V
abbrev Cbrought_along : Cn := fun rs g Q => ∃ (w : Web) (a b : Wlk), rs = [.d (eW w), .d (eK a), .d (eK b)] ∧ WK w a ∧ a.steps.length ≤ 300 ∧ b.steps.length ≤ 300 ∧ Q (.d (eK (joinL a [b, backW w a]))) g
def wbrought_along : WS :=
  (sRet (eCallP Cjoined_of_any_size (aCons (eLst (aCons (eName 1) (aCons (eName 2) (aCons (eCallP Copposite_walk (aCons (eName 0) (aCons (eName 1) aNil))) aNil)))) aNil)))
theorem lenbrought_along (rs : List Rv) (g : Option Nat) (Q : Rv → Option Nat → Prop) (h : Cbrought_along rs g Q) : rs.length = 3 := by
  obtain ⟨_, _, _, rfl, _⟩ := h
  rfl
theorem specbrought_along (rs : List Rv) (g : Option Nat) (Q : Rv → Option Nat → Prop) (h : Cbrought_along rs g Q) : wbrought_along (startC 3 rs g) (endP Q) fun _ _ => False := by
  obtain ⟨w, a, b, rfl, wa, la, lb, hQ⟩ := h
  simp only [wbrought_along]
  simp -dsimp only [startC, List.map_cons, List.map_nil, List.cons_append, List.nil_append, List.length_cons, List.length_nil, Nat.reduceSub, Nat.reduceAdd, List.replicate_succ, List.replicate_zero]
  try simp -dsimp only [rR_]
  refine ⟨w, a, rfl, wa, ?_⟩
  try simp -dsimp only [rR_]
  refine ⟨by decide, a, [b, backW w a], rfl, ?_, by simp, ?_⟩
  · unfold lens
    simp only [List.map_cons, List.map_nil, List.sum_cons, List.sum_nil, back_len]
    omega
  · try simp -dsimp only [rR_]
    exact hQ
abbrev Csources_at : Cn := fun rs g Q => ∃ (w : Web) (r : Int), rs = [.d (eW w), .d (.int r)] ∧ g = none ∧ RmO w r ∧ w.rooms ≤ 300 ∧ ∀ l h, IsPiece w.ties r l → Wy w r (outs w) h → Q (.d (.tuple ((h.map (turnW w r) ++ ringsOf w r h (tiesIn w l)).map eK))) g
def wsources_at : WS :=
  (sSeq (sAsg (eIx (eCallP Cfirst_ways (aCons (eName 0) (aCons (eName 1) (aCons (eCallP Cties_of_piece (aCons (eName 0) (aCons (eName 1) aNil))) aNil)))) (eC (.int 0))) (gN 2))
  (sSeq (sAsg (eLc (iDi (eName 2)) (gT 2 (gsCons (gN 4) (gsCons (gN 5) gsNil))) wYes (eCallP Cbrought_along (aCons (eName 0) (aCons (eName 5) (aCons (eTup (aCons (eName 4) (aCons (eC (.int 1)) (aCons (eTup aNil) aNil)))) aNil)))) [4, 5]) (gN 3))
  (sRet (eOp addD (eCB tupC (aCons (eName 3) aNil)) (eCallP Crings_at (aCons (eName 0) (aCons (eName 1) aNil)))))))
theorem lensources_at (rs : List Rv) (g : Option Nat) (Q : Rv → Option Nat → Prop) (h : Csources_at rs g Q) : rs.length = 2 := by
  obtain ⟨_, _, rfl, _⟩ := h
  rfl
theorem specsources_at (rs : List Rv) (g : Option Nat) (Q : Rv → Option Nat → Prop) (h : Csources_at rs g Q) : wsources_at (startC 6 rs g) (endP Q) fun _ _ => False := by
  obtain ⟨w, r, rfl, rfl, R, hr, hQ⟩ := h
  have wo := R.wo
  simp only [wsources_at]
  simp -dsimp only [startC, List.map_cons, List.map_nil, List.cons_append, List.nil_append, List.length_cons, List.length_nil, Nat.reduceSub, Nat.reduceAdd, List.replicate_succ, List.replicate_zero]
  try simp -dsimp only [rR_]
  refine ⟨w, r, rfl, R, fun l hl => ?_⟩
  try simp -dsimp only [rR_]
  refine ⟨w, r, tiesIn w l, rfl, R, fun h H hc hb => ?_⟩
  have V : Wy w r (outs w) h := Wy.all hl ⟨H, hc, hb, from_outsT w _⟩
  have hrm : h.length ≤ 300 := by have := H.un; omega
  try simp -dsimp only [rR_]
  refine ⟨by simp [nown], ?_⟩
  simp only [lcH]
  have ei : itmX (eWm r h) = h.map fun p => PyData.tuple [.int p.1, eK (barW r p.2)] := by
    unfold itmX eWm
    rw [List.map_map]
    rfl
  rw [ei]
  refine lcW_mpa (fun p : Int × List (Int × Int) => PyData.tuple [.int p.1, eK (barW r p.2)]) (fun p => eK (turnW w r p)) h (fun p hp R' S hR => ?_) (by omega) ?_
  · obtain ⟨a, b, c, _, _⟩ := H.en p hp
    have wb : WK w (barW r p.2) := ⟨wo, bar_st a, by rw [bar_len]; omega⟩
    simp -dsimp only [rR_, Turn1, wipeE]
    have e1 : (PyData.tuple [.int p.1, .int 1, .tuple []] : Px) = eK ⟨p.1, 1, []⟩ := rfl
    refine ⟨by decide, by decide, w, barW r p.2, ⟨p.1, 1, []⟩, rfl, wb, by rw [bar_len]; omega, by show 0 ≤ 300; omega, ?_⟩
    try simp -dsimp only [rR_]
    exact ⟨rfl, hR⟩
  · try simp -dsimp only [rR_]
    refine ⟨w, r, rfl, rfl, R, hr, fun l2 h2 hl2 W2 => ?_⟩
    obtain rfl : l2 = l := hl2.uniq hl
    obtain rfl : h2 = h := V.uniq W2
    have rl : (ringsOf w r h2 (tiesIn w l2)).length ≤ 1000 := by
      unfold ringsOf
      rw [List.length_map]
      refine Nat.le_trans (List.length_filter_le _ _) ?_
      have := tin_len w l2
      have := R.tl
      omega
    try simp -dsimp only [rR_]
    have hQ := hQ l2 h2 hl2 W2
    rw [List.map_append, List.map_map] at hQ
    exact ⟨by rw [List.length_map, List.length_map]; omega, hQ⟩
end K
set_option Elab.async false
set_option maxRecDepth 100000
set_option linter.all false
set_option autoImplicit false
set_option maxHeartbeats 4000000
namespace K
open PySem L2 Dl
variable [TabF]
abbrev C_law_bare : Cn := fun rs g Q => ∃ (r : Int) (cs : List (Int × Int)), rs = [.d (.int r), .d (.list (cs.map eC2))] ∧ cs.length ≤ 1000 ∧ Q (.d (eK (barW r cs))) g
def w_law_bare : WS :=
  (sRet (eTup (aCons (eName 0) (aCons (eC (.int 0)) (aCons (eCB tupC (aCons (eLc (iLst (eName 1)) (gT 2 (gsCons (gN 2) (gsCons (gN 3) gsNil))) wYes (eTup (aCons (eName 2) (aCons (eName 3) (aCons (eC (.int 0)) aNil)))) [2, 3]) aNil)) aNil)))))
theorem len_law_bare (rs : List Rv) (g : Option Nat) (Q : Rv → Option Nat → Prop) (h : C_law_bare rs g Q) : rs.length = 2 := by
  obtain ⟨_, _, rfl, _⟩ := h
  rfl
theorem spec_law_bare (rs : List Rv) (g : Option Nat) (Q : Rv → Option Nat → Prop) (h : C_law_bare rs g Q) : w_law_bare (startC 4 rs g) (endP Q) fun _ _ => False := by
  obtain ⟨r, cs, rfl, hl, hQ⟩ := h
  simp only [w_law_bare]
  simp -dsimp only [startC, List.map_cons, List.map_nil, List.cons_append, List.nil_append, List.length_cons, List.length_nil, Nat.reduceSub, Nat.reduceAdd, List.replicate_succ, List.replicate_zero]
  try simp -dsimp only [rR_]
  refine ⟨by simp [nown], ?_⟩
  simp only [lcH]
  refine lcW_mpa eC2 (fun c => eS (stp0 c)) cs (fun c hc R' S hR => ?_) (by omega) ?_
  · simp -dsimp only [rR_, Turn1, wipeE, eC2]
    exact ⟨by decide, hR⟩
  · try simp -dsimp only [rR_]
    have e : eK (barW r cs) = .tuple [.int r, .int 0, .tuple (cs.map fun c => eS (stp0 c))] := by
      unfold eK barW
      rw [List.map_map]
      rfl
    rw [e] at hQ
    exact ⟨by decide, hQ⟩
/-! ### the law's own rings -/
theorem eqt_lnil {cs : List (Int × Int)} {P : Rv → Prop} : eqD true (.list (cs.map eC2)) (.list []) P = P (.d (.bool (!(cs.map eC2).isEmpty))) := eqt_nil fun x hx => by
  obtain ⟨c, _, rfl⟩ := List.mem_map.mp hx
  exact shp2
theorem key_hm (h : Hom) : keyX (eHm h) = (h.map (·.1)).map PyData.int := by
  unfold keyX eHm
  rw [List.map_map, List.map_map]
  rfl
theorem fm_tree (h : Hom) (nd : (h.map (·.1)).Nodup) : (h.map (·.1)).filterMap (fun x => (csOf h x).getLast?.map fun c => PyData.int c.1) = (treeOf h).map PyData.int := by
  have key : ∀ (k : Hom), (∀ p ∈ k, csOf h p.1 = p.2) → (k.map (·.1)).filterMap (fun x => (csOf h x).getLast?.map fun c => PyData.int c.1) = (treeOf k).map PyData.int := by
    intro k
    induction k with
    | nil => exact fun _ => rfl
    | cons p k ih =>
      intro hk
      have e := hk p (by simp)
      have ih := ih fun q hq => hk q (List.mem_cons_of_mem _ hq)
      unfold treeOf at ih ⊢
      rw [List.map_cons]
      cases hl : p.2.getLast? with
      | none => rw [List.filterMap_cons_none (by rw [e, hl]; rfl), List.filterMap_cons_none (by rw [hl]; rfl), ih]
      | some c => rw [List.filterMap_cons_some (by rw [e, hl]; rfl), List.filterMap_cons_some (by rw [hl]; rfl), ih]; rfl
  exact key h fun p hp => cs_of nd (by rw [Prod.eta]; exact hp)
abbrev C_law_rings : Cn := fun rs g Q => ∃ (w : Web) (r : Int), rs = [.d (eW w), .d (.int r)] ∧ g = none ∧ RmO w r ∧ w.rooms ≤ 300 ∧ ∀ l h, IsPiece w.ties r l → Wy w r (outs w) h → Q (.d (.list ((ringsOf w r h (tiesIn w l)).map eK))) g
def w_law_rings : WS :=
  (sSeq (sPar2 2 3 (eFrzC (eCallP C_law_home (aCons (eName 0) (aCons (eName 1) aNil)))) (eLst aNil))
  (sSeq (sAsg (eLc (iDk (eName 2)) (gN 11) (wB (eSc (eqD true) (eDIxF 2 (eName 11)) (eLst aNil))) (eIx (eIx (eDIxF 2 (eName 11)) (eUn negD (eC (.int 1)))) (eC (.int 0))) [11]) (gN 4))
  (sSeq (sFor (iEnmT (aCons (eIxN 0 (eC (.int 1))) aNil)) (gT 2 (gsCons (gN 5) (gsCons (gT 4 (gsCons (gN 6) (gsCons (gN 7) (gsCons (gN 8) (gsCons (gN 9) gsNil))))) gsNil)))
  (sIf (wAnd (wB (eDInF false 2 (eName 6))) (wB (eScR 4 (inD true) (eName 5)))) (sSeq (sAsg (eCallP C_law_joined (aCons (eCallP C_law_bare (aCons (eName 1) (aCons (eDIxF 2 (eName 6)) aNil))) (aCons (eTup (aCons (eName 6) (aCons (eC (.int 0)) (aCons (eTup (aCons (eTup (aCons (eName 5) (aCons (eC (.int 1)) (aCons (eC (.int 0)) aNil)))) aNil)) aNil)))) aNil))) (gN 10))
  (sExp (eApp 3 (eCallP C_law_joined (aCons (eName 10) (aCons (eCallP C_law_back (aCons (eName 0) (aCons (eCallP C_law_bare (aCons (eName 1) (aCons (eDIxF 2 (eName 7)) aNil))) aNil))) aNil)))))) sNil))
  (sRet (eName 3)))))
theorem len_law_rings (rs : List Rv) (g : Option Nat) (Q : Rv → Option Nat → Prop) (h : C_law_rings rs g Q) : rs.length = 2 := by
  obtain ⟨_, _, rfl, _⟩ := h
  rfl
theorem home_piece {w : Web} {r : Int} {h : Hom} (W : Wy w r (outs w) h) : ∃ l, IsPiece w.ties r l ∧ ∀ x, x ∈ l ↔ x ∈ h.map (·.1) := by
  obtain ⟨l, pm, so⟩ : ∃ l : List Int, l.Perm (h.map (·.1)) ∧ l.Pairwise (· ≤ ·) := ⟨(h.map (·.1)).mergeSort (fun a b => decide (a ≤ b)), List.mergeSort_perm _ _, by
    have := List.pairwise_mergeSort (le := fun a b : Int => decide (a ≤ b)) (fun a b c h1 h2 => by simp at *; omega) (fun a b => by simp; omega) (h.map (·.1))
    exact this.imp fun h => by simpa using h⟩
  exact ⟨l, hm_piece W.hm W.cl pm so, fun x => pm.mem_iff⟩
theorem spec_law_rings (rs : List Rv) (g : Option Nat) (Q : Rv → Option Nat → Prop) (h : C_law_rings rs g Q) : w_law_rings (startC 12 rs g) (endP Q) fun _ _ => False := by
  obtain ⟨w, r, rfl, rfl, R, hr, hQ⟩ := h
  have wo := R.wo
  have eW1 : ∀ q : Px → Prop, ixD (eW w) (.int 1) q = q (.tuple (w.ties.map eT)) := fun q => by unfold eW; rw [ixt1]
  simp only [w_law_rings]
  simp -dsimp only [startC, List.map_cons, List.map_nil, List.cons_append, List.nil_append, List.length_cons, List.length_nil, Nat.reduceSub, Nat.reduceAdd, List.replicate_succ, List.replicate_zero]
  try simp -dsimp only [rR_]
  refine ⟨w, r, rfl, wo, R.tl, R.rl, R.r0, R.r1, fun h H hc hb => ?_⟩
  have W : Wy w r (outs w) h := ⟨H, hc, hb, from_outs w⟩
  obtain ⟨l, hl, hlm⟩ := home_piece W
  have hQ := hQ l h hl W
  have hrm : h.length ≤ 300 := by have := H.un; omega
  have nd := W.nd
  try simp -dsimp only [rR_]
  refine ⟨by decide, by simp [nown], ?_⟩
  simp only [lcH]
  rw [key_hm]
  refine lcW_fma PyData.int (fun x => (csOf h x).getLast?.map fun c => PyData.int c.1) (h.map (·.1)) [] (fun x hx R' S hR hS => ?_) (by simp; omega) ?_
  · obtain ⟨_, lk⟩ := eHm_look2 hx
    simp -dsimp only [rR_, Turn1, wipeE]
    refine ⟨_, lk, by decide, ?_⟩
    rw [eqt_lnil]
    try simp -dsimp only [rR_]
    rcases List.eq_nil_or_concat (csOf h x) with e | ⟨cs, c, e⟩
    · rw [e]
      simp -dsimp only [rR_, List.map_nil, List.isEmpty_nil, Bool.not_true]
      exact hS (by rw [e]; rfl)
    · rw [List.concat_eq_append] at e
      rw [e] at lk ⊢
      rw [if_pos (by simp)]
      refine ⟨_, lk, ?_⟩
      rw [List.map_append]
      simp -dsimp only [rR_, List.map_cons, List.map_nil, ixll, eC2]
      exact hR _ (by rw [e]; simp)
  · rw [List.nil_append, fm_tree h nd]
    simp -dsimp only [rR_, eW1]
    simp only [forH]
    refine forW_ind _ (fun i c => ∃ (x5 x6 x7 x8 x9 x10 : Option Px), c = ⟨[some (.d (eW w)), some (.d (.int r)), some (.d (eDc (eHm h))), some (.own ((ringsOf w r h (((List.range i).filter fun i : Nat => decide ((w.tie (i : Int)).v ∈ l)).map fun i : Nat => (i : Int))).map eK)), some (.own ((treeOf h).map .int)), x5.map .d, x6.map .d, x7.map .d, x8.map .d, x9.map .d, x10.map .d, none], none⟩) (fun i x c hx hI R' hR => ?_) (fun c hI => ?_) _ ⟨none, none, none, none, none, none, rfl⟩
    · obtain ⟨x5, x6, x7, x8, x9, x10, rfl⟩ := hI
      obtain ⟨t, ht, rfl⟩ := enum_at hx
      have hi : i < w.ties.length := (List.getElem?_eq_some_iff.mp ht).1
      have ty : w.tie (i : Int) = t := tie_at ht
      have tlen := R.tl
      have ro : ringsOf w r h (((List.range (i + 1)).filter fun i : Nat => decide ((w.tie (i : Int)).v ∈ l)).map fun i : Nat => (i : Int)) = ringsOf w r h (((List.range i).filter fun i : Nat => decide ((w.tie (i : Int)).v ∈ l)).map fun i : Nat => (i : Int)) ++ (if t.v ∈ l ∧ ¬ (i : Int) ∈ treeOf h then [ringW w r h (i : Int)] else []) := by
        unfold ringsOf
        rw [List.range_succ, List.filter_append, List.map_append, List.filter_append, List.map_append]
        congr 1
        by_cases z : t.v ∈ l
        · rw [List.filter_cons_of_pos (by rw [ty]; simpa using z)]
          by_cases z2 : (i : Int) ∈ treeOf h
          · rw [if_neg (fun y => y.2 z2)]
            simp [z2]
          · rw [if_pos ⟨z, z2⟩]
            simp [z2]
        · rw [if_neg (fun y => z y.1), List.filter_cons_of_neg (by rw [ty]; simpa using z)]
          rfl
      have rlen : (ringsOf w r h (((List.range i).filter fun i : Nat => decide ((w.tie (i : Int)).v ∈ l)).map fun i : Nat => (i : Int))).length ≤ 1000 := by
        unfold ringsOf
        rw [List.length_map]
        refine Nat.le_trans (List.length_filter_le _ _) ?_
        rw [List.length_map]
        refine Nat.le_trans (List.length_filter_le _ _) ?_
        rw [List.length_range]
        omega
      generalize ringsOf w r h (((List.range i).filter fun i : Nat => decide ((w.tie (i : Int)).v ∈ l)).map fun i : Nat => (i : Int)) = F0 at ro rlen ⊢
      have fin : ∀ (x10 : Option Px) (F1 : List Wlk), F1 = F0 ++ (if t.v ∈ l ∧ ¬ (i : Int) ∈ treeOf h then [ringW w r h (i : Int)] else []) → R' ⟨[some (.d (eW w)), some (.d (.int r)), some (.d (eDc (eHm h))), some (.own (F1.map eK)), some (.own ((treeOf h).map .int)), some (.d (.int (i : Int))), some (.d (.int t.v)), some (.d (.int t.w)), some (.d (.int t.p)), some (.d (.int t.q)), x10.map .d, none], none⟩ := fun x10 F1 e => hR _ ⟨some (.int (i : Int)), some (.int t.v), some (.int t.w), some (.int t.p), some (.int t.q), x10, by rw [ro, e]; rfl⟩
      simp -dsimp only [rR_, gT_d, eT]
      by_cases hv : t.v ∈ h.map (·.1)
      · obtain ⟨_, lk⟩ := eHm_look2 hv
        rw [lk]
        have vl := (hlm _).mpr hv
        simp -dsimp only [rR_, Option.isSome_some]
        rw [inT_l]
        try simp -dsimp only [rR_]
        by_cases hm : (i : Int) ∈ treeOf h
        · simp -dsimp only [rR_, hm, decide_true, Bool.not_true]
          exact fin x10 F0 (by rw [if_neg (fun y => y.2 hm), List.append_nil])
        · simp -dsimp only [rR_, hm, decide_false, Bool.not_false]
          have hw : t.w ∈ h.map (·.1) := W.keys (((hl.mem _).mp vl).trans (.step .refl ⟨t, List.mem_of_getElem? ht, .inl ⟨rfl, rfl⟩⟩))
          obtain ⟨_, lw⟩ := eHm_look2 hw
          have Wv := W.way hv
          have Ww := W.way hw
          have lv1 := Wv.ln
          have lw1 := Ww.ln
          refine ⟨_, rfl, ?_⟩
          refine ⟨r, csOf h t.v, rfl, by omega, ?_⟩
          have e1 : (PyData.tuple [.int t.v, .int 0, .tuple [.tuple [.int (i : Int), .int 1, .int 0]]] : Px) = eK ⟨t.v, 0, [stp0 ((i : Int), 1)]⟩ := rfl
          simp -dsimp only [rR_, e1]
          refine ⟨by decide, by decide, by decide, barW r (csOf h t.v), ⟨t.v, 0, [stp0 ((i : Int), 1)]⟩, rfl, by rw [bar_len]; show _ + 1 ≤ 1000; omega, ?_⟩
          try simp -dsimp only [rR_]
          refine ⟨_, lw, r, csOf h t.w, rfl, by omega, ?_⟩
          try simp -dsimp only [rR_]
          refine ⟨w, barW r (csOf h t.w), rfl, Ww.wk wo hr, ?_⟩
          try simp -dsimp only [rR_]
          refine ⟨_, backW w (barW r (csOf h t.w)), rfl, by rw [joinW_len, back_len, bar_len, bar_len]; show _ + 1 + _ ≤ 1000; omega, ?_⟩
          try simp -dsimp only [rR_]
          refine ⟨by rw [List.length_map]; omega, ?_⟩
          have := fin (some (eK (joinW (barW r (csOf h t.v)) ⟨t.v, 0, [stp0 ((i : Int), 1)]⟩))) (F0 ++ [ringW w r h (i : Int)]) (by rw [if_pos ⟨vl, hm⟩])
          rw [List.map_append] at this
          simp only [List.map_cons, List.map_nil, ringW, ty] at this
          exact this
      · rw [eHm_none hv]
        simp -dsimp only [rR_, Option.isSome_none]
        exact fin x10 F0 (by rw [if_neg (fun y => hv ((hlm _).mp y.1)), List.append_nil])
    · obtain ⟨x5, x6, x7, x8, x9, x10, rfl⟩ := hI
      rw [enumX_length, List.length_map]
      try simp -dsimp only [rR_]
      exact hQ
end K
set_option Elab.async false
set_option maxRecDepth 100000
set_option linter.all false
set_option autoImplicit false
set_option maxHeartbeats 4000000
namespace K
open PySem L2 Dl
variable [TabF]
abbrev C_law_sources : Cn := fun rs g Q => ∃ (w : Web) (r : Int), rs = [.d (eW w), .d (.int r)] ∧ g = none ∧ RmO w r ∧ w.rooms ≤ 300 ∧ ∀ l h, IsPiece w.ties r l → Wy w r (outs w) h → Q (.own ((h.map (turnW w r) ++ ringsOf w r h (tiesIn w l)).map eK)) g
def w_law_sources : WS :=
  (sSeq (sPar2 2 3 (eFrzC (eCallP C_law_home (aCons (eName 0) (aCons (eName 1) aNil)))) (eLst aNil))
  (sSeq (sFor (iDk (eName 2)) (gN 4)
  (sSeq (sAsg (eCallP C_law_bare (aCons (eName 1) (aCons (eDIxF 2 (eName 4)) aNil))) (gN 5))
  (sExp (eApp 3 (eCallP C_law_joined (aCons (eCallP C_law_joined (aCons (eName 5) (aCons (eTup (aCons (eName 4) (aCons (eC (.int 1)) (aCons (eTup aNil) aNil)))) aNil))) (aCons (eCallP C_law_back (aCons (eName 0) (aCons (eName 5) aNil))) aNil)))))))
  (sRet (eAddN 3 (eCallP C_law_rings (aCons (eName 0) (aCons (eName 1) aNil)))))))
theorem len_law_sources (rs : List Rv) (g : Option Nat) (Q : Rv → Option Nat → Prop) (h : C_law_sources rs g Q) : rs.length = 2 := by
  obtain ⟨_, _, rfl, _⟩ := h
  rfl
theorem rings_len (w : Web) (r : Int) (h : Hom) (l : List Int) : (ringsOf w r h (tiesIn w l)).length ≤ w.ties.length := by
  unfold ringsOf
  rw [List.length_map]
  exact Nat.le_trans (List.length_filter_le _ _) (tin_len w l)
theorem spec_law_sources (rs : List Rv) (g : Option Nat) (Q : Rv → Option Nat → Prop) (h : C_law_sources rs g Q) : w_law_sources (startC 6 rs g) (endP Q) fun _ _ => False := by
  obtain ⟨w, r, rfl, rfl, R, hr, hQ⟩ := h
  have wo := R.wo
  simp only [w_law_sources]
  simp -dsimp only [startC, List.map_cons, List.map_nil, List.cons_append, List.nil_append, List.length_cons, List.length_nil, Nat.reduceSub, Nat.reduceAdd, List.replicate_succ, List.replicate_zero]
  try simp -dsimp only [rR_]
  refine ⟨w, r, rfl, wo, R.tl, R.rl, R.r0, R.r1, fun h H hc hb => ?_⟩
  have W : Wy w r (outs w) h := ⟨H, hc, hb, from_outs w⟩
  have hrm : h.length ≤ 300 := by have := H.un; omega
  have nd := W.nd
  try simp -dsimp only [rR_]
  simp only [forH]
  refine ⟨by decide, ?_⟩
  rw [key_hm]
  refine forW_ind _ (fun i c => ∃ (x4 x5 : Option Px), c = ⟨[some (.d (eW w)), some (.d (.int r)), some (.d (eDc (eHm h))), some (.own (((h.take i).map (turnW w r)).map eK)), x4.map .d, x5.map .d], none⟩) (fun i x c hx hI R' hR => ?_) (fun c hI => ?_) _ ⟨none, none, rfl⟩
  · obtain ⟨x4, x5, rfl⟩ := hI
    obtain ⟨a, ha, rfl⟩ := map_at hx
    obtain ⟨p, hp, rfl⟩ : ∃ p, h[i]? = some p ∧ p.1 = a := by simpa [List.getElem?_map] using ha
    have hm := List.mem_of_getElem? hp
    have hi : i < h.length := (List.getElem?_eq_some_iff.mp hp).1
    have ce : csOf h p.1 = p.2 := cs_of nd (by rw [Prod.eta]; exact hm)
    obtain ⟨_, lk⟩ := eHm_look2 (h := h) (a := p.1) (List.mem_map_of_mem hm)
    rw [ce] at lk
    have tk : h.take (i + 1) = h.take i ++ [p] := by rw [List.take_succ, hp]; rfl
    obtain ⟨k1, k2, k3, _, _⟩ := H.en p hm
    have wb : WK w (barW r p.2) := ⟨wo, bar_st k1, by rw [bar_len]; omega⟩
    try simp -dsimp only [rR_]
    refine ⟨_, lk, r, p.2, rfl, by omega, ?_⟩
    have e1 : (PyData.tuple [.int p.1, .int 1, .tuple []] : Px) = eK ⟨p.1, 1, []⟩ := rfl
    simp -dsimp only [rR_, e1]
    refine ⟨by decide, by decide, barW r p.2, ⟨p.1, 1, []⟩, rfl, by rw [bar_len]; show _ + 0 ≤ 1000; omega, ?_⟩
    try simp -dsimp only [rR_]
    refine ⟨w, barW r p.2, rfl, wb, ?_⟩
    try simp -dsimp only [rR_]
    refine ⟨_, backW w (barW r p.2), rfl, by rw [joinW_len, back_len, bar_len]; show _ + 0 + _ ≤ 1000; omega, ?_⟩
    try simp -dsimp only [rR_]
    refine ⟨by rw [List.length_map, List.length_map, List.length_take]; omega, ?_⟩
    refine hR _ ⟨some (.int p.1), some (eK (barW r p.2)), ?_⟩
    rw [tk, List.map_append, List.map_append]
    rfl
  · obtain ⟨x4, x5, rfl⟩ := hI
    rw [List.length_map, List.length_map, List.take_length]
    try simp -dsimp only [rR_]
    refine ⟨w, r, rfl, rfl, R, hr, fun l h2 hl W2 => ?_⟩
    obtain rfl : h2 = h := W.uniq W2
    have rl := rings_len w r h2 l
    have tl := R.tl
    have hQ := hQ l h2 hl W2
    rw [List.map_append] at hQ
    try simp -dsimp only [rR_]
    exact ⟨by rw [List.length_map, List.length_map, List.length_map]; omega, hQ⟩
def itN {α : Type} (f : α → α) : Nat → α → α
  | 0, b => b
  | n + 1, b => itN f n (f b)
theorem itN_comm {α : Type} (f : α → α) : ∀ (m : Nat) (b : α), itN f m (f b) = f (itN f m b)
  | 0, _ => rfl
  | m + 1, b => itN_comm f m (f b)
abbrev C_law_power : Cn := fun rs g Q => ∃ (w : Web) (k : Wlk) (n : Int), rs = [.d (eW w), .d (eK k), .d (.int n)] ∧ WK w k ∧ endR w k = k.room ∧ n.natAbs * k.steps.length ≤ 500 ∧ k.steps.length ≤ 500 ∧ n.natAbs ≤ 1000 ∧
  ∀ M, M.room = k.room → WK w M → (n ≠ 0 → plainW w M = M) → (n = 0 → M = ⟨k.room, 0, []⟩) → (∀ z : List Kp × Int, Red w z.1 → act w M z = itN (act w (if 0 ≤ n then k else backW w k)) n.natAbs z) → Q (.d (eK M)) g
def w_pw : WS :=
  (sFor (iRg1 (aCons (eCB absC (aCons (eName 2) aNil)) aNil)) (gN 5)
  (sAsg (eCallP C_law_plain (aCons (eName 0) (aCons (eCallP C_law_joined (aCons (eName 4) (aCons (eName 3) aNil))) aNil))) (gN 4)))
def w_law_power : WS :=
  (sSeq (sPar2 3 4 (eIf (wB (eScL 2 geD (eC (.int 0)))) (eName 1) (eCallP C_law_back (aCons (eName 0) (aCons (eName 1) aNil)))) (eTup (aCons (eIxN 1 (eC (.int 0))) (aCons (eC (.int 0)) (aCons (eTup aNil) aNil)))))
  (sSeq w_pw
  (sRet (eName 4))))
theorem len_law_power (rs : List Rv) (g : Option Nat) (Q : Rv → Option Nat → Prop) (h : C_law_power rs g Q) : rs.length = 3 := by
  obtain ⟨_, _, _, rfl, _⟩ := h
  rfl
theorem idle_act {w : Web} {r : Int} (b : List Kp × Int) : act w ⟨r, 0, []⟩ b = b := by
  show (b.1, b.2 + 0) = b
  rw [Int.add_zero]
theorem run_pw {w : Web} {k one : Wlk} {n : Int} {x5 : Option Px} {g : Option Nat} {R : Fl → Prop} (wk : WK w k) (wo : WK w one) (lo : one.steps.length = k.steps.length) (ro : one.room = k.room) (h1 : n.natAbs * k.steps.length ≤ 500) (h2 : k.steps.length ≤ 500) (h3 : n.natAbs ≤ 1000)
    (hR : ∀ (M : Wlk) (x5 : Option Px), M.room = k.room → WK w M → (n ≠ 0 → plainW w M = M) → (n = 0 → M = ⟨k.room, 0, []⟩) → (∀ z : List Kp × Int, Red w z.1 → act w M z = itN (act w one) n.natAbs z) → R (.nx ⟨[some (.d (eW w)), some (.d (eK k)), some (.d (.int n)), some (.d (eK one)), some (.d (eK M)), x5.map .d], g⟩)) :
    w_pw ⟨[some (.d (eW w)), some (.d (eK k)), some (.d (.int n)), some (.d (eK one)), some (.d (eK ⟨k.room, 0, []⟩)), x5.map .d], g⟩ R (fun _ _ => False) := by
  simp only [w_pw]
  try simp -dsimp only [rR_]
  refine ⟨by unfold smI; omega, ?_⟩
  simp only [forH]
  have en : ((n.natAbs : Int)).toNat = n.natAbs := rfl
  rw [en]
  refine forW_ind _ (fun i c => ∃ (M : Wlk) (x5 : Option Px), M.room = k.room ∧ WK w M ∧ M.steps.length ≤ i * k.steps.length ∧ (i ≠ 0 → plainW w M = M) ∧ (i = 0 → M = ⟨k.room, 0, []⟩) ∧ (∀ z : List Kp × Int, Red w z.1 → act w M z = itN (act w one) i z) ∧ c = ⟨[some (.d (eW w)), some (.d (eK k)), some (.d (.int n)), some (.d (eK one)), some (.d (eK M)), x5.map .d], g⟩) (fun i x c hx hI R' hR' => ?_) (fun c hI => ?_) _ ⟨⟨k.room, 0, []⟩, x5, rfl, turn_wk wk.wo, Nat.zero_le _, fun z => absurd rfl z, fun _ => rfl, fun z _ => idle_act z, rfl⟩
  · obtain ⟨M, x5, m1, m2, m3, m4, m5, m6, rfl⟩ := hI
    obtain ⟨hi, rfl⟩ := rng_at hx
    have m7 : i * k.steps.length ≤ n.natAbs * k.steps.length := Nat.mul_le_mul_right _ (by omega)
    have wj : WK w (joinW M one) := joinW_wk m2 wo (by omega)
    try simp -dsimp only [rR_]
    refine ⟨M, one, rfl, by omega, ?_⟩
    try simp -dsimp only [rR_]
    refine ⟨w, joinW M one, rfl, wj, ?_⟩
    try simp -dsimp only [rR_]
    refine hR' _ ⟨plainW w (joinW M one), some _, (by show (joinW M one).room = _; rw [joinW_room, m1]), plain_wk wj, ?_, fun _ => plainW_plain fun s hs => (wj.so s hs).p0, fun z => absurd z (by omega), fun z hz => ?_, rfl⟩
    · rw [plain_ln, Nat.succ_mul]
      have := goW_len w (joinW M one)
      rw [joinW_len] at this
      omega
    · rw [← act_of_plain wj.so hz, joinW_act, m6 z hz]
      exact (itN_comm (act w one) i z).symm
  · obtain ⟨M, x5, m1, m2, m3, m4, m5, m6, rfl⟩ := hI
    rw [rngX_length] at m4 m5 m6
    exact hR M x5 m1 m2 (fun z => m4 (by omega)) (fun z => m5 (by omega)) m6
theorem spec_law_power (rs : List Rv) (g : Option Nat) (Q : Rv → Option Nat → Prop) (h : C_law_power rs g Q) : w_law_power (startC 6 rs g) (endP Q) fun _ _ => False := by
  obtain ⟨w, k, n, rfl, wk, ek, h1, h2, h3, hQ⟩ := h
  have eK0 : ∀ q : Px → Prop, ixD (eK k) (.int 0) q = q (.int k.room) := fun q => by unfold eK; rw [ixt0]
  have e1 : (PyData.tuple [.int k.room, .int 0, .tuple []] : Px) = eK ⟨k.room, 0, []⟩ := rfl
  generalize hW : w_pw = W
  simp only [w_law_power, hW]
  simp -dsimp only [startC, List.map_cons, List.map_nil, List.cons_append, List.nil_append, List.length_cons, List.length_nil, Nat.reduceSub, Nat.reduceAdd, List.replicate_succ, List.replicate_zero]
  simp -dsimp only [rR_, eK0]
  by_cases hn : 0 ≤ n
  · rw [if_pos hn]
    simp only [e1]
    refine ⟨by decide, by decide, ?_⟩
    rw [← hW]
    refine run_pw (x5 := none) wk wk rfl rfl h1 h2 h3 fun M x5 m1 m2 m3 m4 m5 => ?_
    try simp -dsimp only [rR_]
    exact hQ M m1 m2 m3 m4 (fun z hz => by rw [if_pos hn]; exact m5 z hz)
  · rw [if_neg hn]
    refine ⟨w, k, rfl, wk, ?_⟩
    simp -dsimp only [rR_, eK0]
    simp only [e1]
    refine ⟨by decide, by decide, ?_⟩
    rw [← hW]
    refine run_pw (x5 := none) wk (back_wk wk) (back_len w k) (by rw [back_room, ek]) h1 h2 h3 fun M x5 m1 m2 m3 m4 m5 => ?_
    try simp -dsimp only [rR_]
    exact hQ M m1 m2 m3 m4 (fun z hz => by rw [if_neg hn]; exact m5 z hz)
end K
set_option Elab.async false
set_option maxRecDepth 100000
set_option linter.all false
set_option autoImplicit false
set_option maxHeartbeats 4000000
namespace K
open PySem L2 Dl
variable [TabF]
abbrev Ste := List Kp × Int
def bmp (n : Int) (z : Ste) : Ste := (z.1, z.2 + n)
theorem bmp_bmp (a b : Int) (z : Ste) : bmp a (bmp b z) = bmp (b + a) z := by
  unfold bmp
  rw [Int.add_assoc]
theorem bmp_zero (z : Ste) : bmp 0 z = z := by
  unfold bmp
  rw [Int.add_zero]
/-- there, and back again -/
structure Leg (w : Web) (A B : Ste → Ste) : Prop where
  ra : ∀ z : Ste, Red w z.1 → Red w (A z).1
  rb : ∀ z : Ste, Red w z.1 → Red w (B z).1
  ab : ∀ z : Ste, Red w z.1 → A (B z) = z
  ba : ∀ z : Ste, Red w z.1 → B (A z) = z
theorem back_act {w : Web} {k : Wlk} (h : ∀ s ∈ k.steps, SOk w s) {z : Ste} (hz : Red w z.1) : act w (backW w k) (act w k z) = z := act_back k.room k.k k.steps h z.1 z.2 hz
theorem leg_of {w : Web} {k : Wlk} (wk : WK w k) : Leg w (act w k) (act w (backW w k)) :=
  ⟨fun z hz => act_red wk.so hz, fun z hz => act_red (back_wk wk).so hz, fun z hz => back_inv wk.so hz, fun z hz => back_act wk.so hz⟩
/-- turns at the end of a way -/
theorem Leg.turn {w : Web} {A B : Ste → Ste} (L : Leg w A B) (n : Nat) (d : Int) (z : Ste) (hz : Red w z.1) : itN (fun y => B (bmp d (A y))) n z = B (bmp (n * d) (A z)) := by
  induction n generalizing z with
  | zero =>
    show z = _
    rw [show ((0 : Nat) : Int) * d = 0 by omega, bmp_zero, L.ba z hz]
  | succ n ih =>
    show itN _ n (B (bmp d (A z))) = _
    have r1 : Red w (bmp d (A z)).1 := L.ra z hz
    rw [ih _ (L.rb _ r1), L.ab _ r1, bmp_bmp]
    congr 2
    rw [Int.natCast_add, Int.add_mul]
    omega
theorem itN_eq {w : Web} {f g : Ste → Ste} (h : ∀ z : Ste, Red w z.1 → f z = g z) (hr : ∀ z : Ste, Red w z.1 → Red w (g z).1) : ∀ (n : Nat) (z : Ste), Red w z.1 → itN f n z = itN g n z
  | 0, _, _ => rfl
  | n + 1, z, hz => by
    show itN f n (f z) = itN g n (g z)
    rw [h z hz]
    exact itN_eq h hr n _ (hr z hz)
def cnjW (w : Web) (k : Wlk) (x n : Int) : Wlk := joinL k [⟨x, n, []⟩, backW w k]
theorem cnj_act {w : Web} (k : Wlk) (x n : Int) (z : Ste) : act w (cnjW w k x n) z = act w (backW w k) (bmp n (act w k z)) := by
  show act w (joinW (joinW k ⟨x, n, []⟩) (backW w k)) z = _
  rw [joinW_act, joinW_act]
  rfl
theorem cnj_len {w : Web} (k : Wlk) (x n : Int) : (cnjW w k x n).steps.length = 2 * k.steps.length := by
  show (joinW (joinW k ⟨x, n, []⟩) (backW w k)).steps.length = _
  rw [joinW_len, joinW_len, back_len]
  show k.steps.length + 0 + k.steps.length = _
  omega
theorem cnj_wk {w : Web} {k : Wlk} (wk : WK w k) (h : k.steps.length ≤ 400) (x n : Int) : WK w (cnjW w k x n) := joinW_wk (joinW_wk wk (turn_wk wk.wo) (by show _ + 0 ≤ 1000; omega)) (back_wk wk) (by rw [joinW_len, back_len]; show _ + 0 + _ ≤ 1000; omega)
theorem cnj_room {w : Web} (k : Wlk) (x n : Int) : (cnjW w k x n).room = k.room := by
  show (joinW (joinW k ⟨x, n, []⟩) (backW w k)).room = _
  rw [joinW_room, joinW_room]
/-- the opposite of turns at the end of a way -/
theorem cnj_back {w : Web} {k : Wlk} (wk : WK w k) (h : k.steps.length ≤ 400) (x n : Int) (z : Ste) (hz : Red w z.1) : act w (backW w (cnjW w k x n)) z = act w (backW w k) (bmp (-n) (act w k z)) := by
  have L := leg_of wk
  have cw := cnj_wk wk h x n
  have r1 : Red w (bmp (-n) (act w k z)).1 := L.ra z hz
  have r2 : Red w (act w (backW w k) (bmp (-n) (act w k z))).1 := L.rb _ r1
  have e : act w (cnjW w k x n) (act w (backW w k) (bmp (-n) (act w k z))) = z := by
    rw [cnj_act, L.ab _ r1, bmp_bmp, show -n + n = (0 : Int) by omega, bmp_zero, L.ba z hz]
  conv => lhs; rw [← e]
  exact back_act cw.so r2
/-- a power of turns at the end of a way -/
theorem pow_act {w : Web} {k M : Wlk} {x n : Int} (wk : WK w k) (h : k.steps.length ≤ 400) (hM : ∀ z : Ste, Red w z.1 → act w M z = itN (act w (if 0 ≤ n then cnjW w k x 1 else backW w (cnjW w k x 1))) n.natAbs z) (z : Ste) (hz : Red w z.1) : act w M z = act w (backW w k) (bmp n (act w k z)) := by
  have L := leg_of wk
  rw [hM z hz]
  by_cases hn : 0 ≤ n
  · rw [if_pos hn, itN_eq (g := fun y => act w (backW w k) (bmp 1 (act w k y))) (fun y _ => cnj_act k x 1 y) (fun y hy => L.rb _ (L.ra y hy)) _ _ hz, L.turn _ _ _ hz]
    congr 2
    omega
  · rw [if_neg hn, itN_eq (g := fun y => act w (backW w k) (bmp (-1) (act w k y))) (fun y hy => cnj_back wk h x 1 y hy) (fun y hy => L.rb _ (L.ra y hy)) _ _ hz, L.turn _ _ _ hz]
    congr 2
    omega
theorem pow_len {w : Web} {k M : Wlk} {x n : Int} (wk : WK w k) (h : k.steps.length ≤ 400) (h0 : n = 0 → M.steps.length = 0) (h1 : n ≠ 0 → plainW w M = M) (hM : ∀ z : Ste, Red w z.1 → act w M z = act w (backW w k) (bmp n (act w k z))) : M.steps.length ≤ 2 * k.steps.length := by
  by_cases z : n = 0
  · rw [h0 z]
    exact Nat.zero_le _
  · have e : goW w M = goW w (cnjW w k x n) := by
      rw [goW_act, goW_act, hM _ .nil, cnj_act]
    have := plain_ln w M
    rw [h1 z, e] at this
    have l := goW_len w (cnjW w k x n)
    rw [cnj_len] at l
    omega
theorem one_act {w : Web} (v : Int) (c : Int × Int) (z : Ste) : act w ⟨v, 0, [stp0 c]⟩ z = go1 w z (stp0 c) := by
  show go1 w (z.1, z.2 + 0) (stp0 c) = _
  rw [Int.add_zero]
theorem bar_snoc {w : Web} (r : Int) (cs : List (Int × Int)) (c : Int × Int) (z : Ste) : act w (barW r (cs ++ [c])) z = go1 w (act w (barW r cs) z) (stp0 c) := by
  unfold act barW
  rw [List.map_append, List.foldl_append]
  rfl
theorem bar_nil {w : Web} (r : Int) (z : Ste) : act w (barW r []) z = z := idle_act z
theorem strike0 {w : Web} {z : Ste} {c : Int × Int} (hz : Red w z.1) (h : SOk w (stp0 c)) : go1 w (go1 w z (stp0 c)) (stp0 (rvc c)) = z := by
  have := go1_strike (w := w) (K := z.1) (n := z.2) (t := c.1) (s := c.2) (k := 0) hz h
  rw [Int.add_zero] at this
  exact this
theorem rvc_rvc (c : Int × Int) : rvc (rvc c) = c := by
  unfold rvc
  simp
theorem cr_so {w : Web} (wo : WebOk w 1000) {c : Int × Int} (h : CrOk w c.1 c.2) : SOk w (stp0 c) ∧ SOk w (stp0 (rvc c)) := by
  obtain ⟨a, b, p, q⟩ := cr_pq wo h
  have hn : CrOk w (rvc c).1 (rvc c).2 := crOk_neg h
  exact ⟨⟨h.2, a, b⟩, ⟨hn.2, by show (eCr w (rvc c)).p ≠ 0; rw [p]; exact b, by show (eCr w (rvc c)).q ≠ 0; rw [q]; exact a⟩⟩
theorem ring_act {w : Web} (r : Int) (h : Hom) (t : Int) (z : Ste) : act w (ringW w r h t) z = act w (backW w (barW r (csOf h (w.tie t).w))) (go1 w (act w (barW r (csOf h (w.tie t).v)) z) (stp0 (t, 1))) := by
  show act w (joinW (joinW (barW r (csOf h (w.tie t).v)) ⟨(w.tie t).v, 0, [stp0 (t, 1)]⟩) (backW w (barW r (csOf h (w.tie t).w)))) z = _
  rw [joinW_act, joinW_act, one_act]
theorem ring_back {w : Web} {r : Int} {h : Hom} {t : Int} (wo : WebOk w 1000) (wv : WK w (barW r (csOf h (w.tie t).v))) (ww : WK w (barW r (csOf h (w.tie t).w))) (wr : WK w (ringW w r h t)) (hc : CrOk w t 1) (z : Ste) (hz : Red w z.1) :
    act w (backW w (ringW w r h t)) z = act w (backW w (barW r (csOf h (w.tie t).v))) (go1 w (act w (barW r (csOf h (w.tie t).w)) z) (stp0 (t, -1))) := by
  have V := leg_of wv
  have U := leg_of ww
  obtain ⟨s1, s2⟩ := cr_so (c := (t, 1)) wo hc
  have r1 := U.ra z hz
  have g1 : Red w (go1 w (act w (barW r (csOf h (w.tie t).w)) z) (stp0 (t, -1))).1 := r1.go (s := stp0 (t, -1)) s2.p0
  have r2 := V.rb _ g1
  have e : act w (ringW w r h t) (act w (backW w (barW r (csOf h (w.tie t).v))) (go1 w (act w (barW r (csOf h (w.tie t).w)) z) (stp0 (t, -1)))) = z := by
    rw [ring_act, V.ab _ g1]
    have := strike0 (w := w) (c := (t, -1)) r1 s2
    have e2 : rvc (t, -1) = (t, 1) := rfl
    rw [e2] at this
    rw [this, U.ba z hz]
  conv => lhs; rw [← e]
  exact back_act wr.so r2
/-- over a tie of the tree -/
theorem tree_step {w : Web} {r : Int} {O : Int → List (Int × Int)} {h : Hom} (wo : WebOk w 1000) (hr : w.rooms ≤ 300) (W : Wy w r O h) {c : Int × Int} (hc : CrOk w c.1 c.2) (ht : c.1 ∈ treeOf h) (hx : (eCr w c).v ∈ h.map (·.1)) (hy : (eCr w c).w ∈ h.map (·.1)) (P : Ste) (hP : Red w P.1) :
    act w (barW r (csOf h (eCr w c).w)) (act w (backW w (barW r (csOf h (eCr w c).v))) P) = go1 w P (stp0 c) := by
  have X := leg_of ((W.way hx).wk wo hr)
  have Y := leg_of ((W.way hy).wk wo hr)
  have nd := W.nd
  obtain ⟨p, hp, e⟩ := List.mem_filterMap.mp ht
  obtain ⟨d, hd, e1⟩ : ∃ d, p.2.getLast? = some d ∧ d.1 = c.1 := by simpa using e
  rcases W.tr p hp with ⟨z, _⟩ | ⟨cs, d', z1, z2, z3, z4⟩
  · rw [z] at hd
    cases hd
  · rw [z1, List.getLast?_append] at hd
    have ed : d' = d := by simpa using hd
    subst ed
    have cp : csOf h p.1 = cs ++ [d'] := by rw [← z1]; exact cs_of nd (by rw [Prod.eta]; exact hp)
    have cv : csOf h (eCr w d').v = cs := cs_of nd z2
    by_cases hs : d'.2 = c.2
    · have : d' = c := Prod.ext e1 hs
      subst this
      rw [z3, cp, bar_snoc, cv]
      rw [cv] at X
      rw [X.ab P hP]
    · have er : d' = rvc c := by
        have h1 := z4.2
        have h2 := hc.2
        refine Prod.ext e1 ?_
        show d'.2 = -c.2
        rcases h1 with h1 | h1 <;> rcases h2 with h2 | h2 <;> rw [h1, h2] at hs ⊢ <;> first | exact absurd rfl hs | decide
      subst er
      obtain ⟨q1, q2⟩ := eCr_rvc (w := w) (c := c) hc.2
      rw [q1] at cv
      rw [q2] at z3
      rw [← z3] at cp
      obtain ⟨s1, s2⟩ := cr_so wo hc
      rw [cv] at Y ⊢
      have k : act w (barW r (csOf h (eCr w c).v)) (act w (backW w (barW r (csOf h (eCr w c).v))) P) = P := X.ab P hP
      have rb := X.rb P hP
      generalize act w (backW w (barW r (csOf h (eCr w c).v))) P = u at k rb ⊢
      rw [cp, bar_snoc] at k
      rw [← k]
      have := strike0 (w := w) (c := rvc c) (Y.ra u rb) s2
      rw [rvc_rvc] at this
      exact this.symm
end K
set_option Elab.async false
set_option maxRecDepth 100000
set_option linter.all false
set_option autoImplicit false
set_option maxHeartbeats 4000000
namespace K
open PySem L2 Dl
variable [TabF]
def toldW (w : Web) (r : Int) (h : Hom) (l : List Int) : List Wlk := h.map (turnW w r) ++ ringsOf w r h (tiesIn w l)
theorem turn_cnj (w : Web) (r : Int) (p : Int × List (Int × Int)) : turnW w r p = cnjW w (barW r p.2) p.1 1 := rfl
theorem told_turn {w : Web} {r : Int} {O : Int → List (Int × Int)} {h : Hom} {l : List Int} (W : Wy w r O h) {x : Int} (hx : x ∈ h.map (·.1)) : ((toldW w r h l).map eK)[(h.map (·.1)).idxOf x]? = some (eK (cnjW w (barW r (csOf h x)) x 1)) := by
  have hlt : (h.map (·.1)).idxOf x < (h.map (·.1)).length := List.idxOf_lt_length_iff.mpr hx
  have hlt2 : (h.map (·.1)).idxOf x < h.length := by simpa using hlt
  have e1 : (h.map (·.1))[(h.map (·.1)).idxOf x] = x := List.getElem_idxOf hlt
  rw [List.getElem_map] at e1
  have key : ∀ p : Int × List (Int × Int), p ∈ h → p.1 = x → p = (x, csOf h x) := fun p hp e => by
    subst e
    exact Prod.ext rfl (cs_of W.nd (by rw [Prod.eta]; exact hp)).symm
  have e2 := key _ (List.getElem_mem hlt2) e1
  unfold toldW
  rw [List.getElem?_map, List.getElem?_append_left (by rw [List.length_map]; exact hlt2), List.getElem?_map, List.getElem?_eq_getElem hlt2, e2]
  rfl
theorem told_ring {w : Web} {r : Int} {h : Hom} {l : List Int} {t : Int} (ht : t ∈ (tiesIn w l).filter fun t => decide (¬ t ∈ treeOf h)) : ((toldW w r h l).map eK)[h.length + ((tiesIn w l).filter fun t => decide (¬ t ∈ treeOf h)).idxOf t]? = some (eK (ringW w r h t)) := by
  have hlt := List.idxOf_lt_length_iff.mpr ht
  have e1 := List.getElem_idxOf hlt
  unfold toldW ringsOf
  rw [List.getElem?_map, List.getElem?_append_right (by rw [List.length_map]; omega), List.length_map, Nat.add_sub_cancel_left, List.getElem?_map, List.getElem?_eq_getElem hlt, e1]
  rfl
theorem fm_rings (w : Web) (h : Hom) (l : List Int) : ∀ is : List Nat, is.filterMap (fun i : Nat => if (w.tie (i : Int)).v ∈ l ∧ ¬ (i : Int) ∈ treeOf h then some (PyData.int (i : Int)) else none) = (((is.filter fun i : Nat => decide ((w.tie (i : Int)).v ∈ l)).map fun i : Nat => (i : Int)).filter fun t => decide (¬ t ∈ treeOf h)).map PyData.int
  | [] => rfl
  | i :: is => by
    by_cases h1 : (w.tie (i : Int)).v ∈ l
    · by_cases h2 : (i : Int) ∈ treeOf h
      · rw [List.filterMap_cons_none (by rw [if_neg (fun y => y.2 h2)]), fm_rings w h l is, List.filter_cons_of_pos (by simp [h1]), List.map_cons, List.filter_cons_of_neg (by simp [h2])]
      · rw [List.filterMap_cons_some (by rw [if_pos ⟨h1, h2⟩]), fm_rings w h l is, List.filter_cons_of_pos (by simp [h1]), List.map_cons, List.filter_cons_of_pos (by simp [h2])]
        rfl
    · rw [List.filterMap_cons_none (by rw [if_neg (fun y => h1 y.1)]), fm_rings w h l is, List.filter_cons_of_neg (by simp [h1])]
/-- what a power of told turns is -/
structure PwOk (w : Web) (r x n : Int) (h : Hom) (M : Wlk) : Prop where
  rm : M.room = r
  wk : WK w M
  ln : M.steps.length ≤ 40
  ac : ∀ z : Ste, Red w z.1 → act w M z = act w (backW w (barW r (csOf h x))) (bmp n (act w (barW r (csOf h x)) z))
theorem call_pow {w : Web} {r x n : Int} {O : Int → List (Int × Int)} {h : Hom} {g : Option Nat} {Q : Rv → Option Nat → Prop} (wo : WebOk w 1000) (hr : w.rooms ≤ 10) (W : Wy w r O h) (hx : x ∈ h.map (·.1)) (hn : n.natAbs ≤ 20) (hQ : ∀ M, PwOk w r x n h M → Q (.d (eK M)) g) :
    C_law_power [.d (eW w), .d (eK (cnjW w (barW r (csOf h x)) x 1)), .d (.int n)] g Q := by
  have V := W.way hx
  have vl := V.ln
  have wb : WK w (barW r (csOf h x)) := V.wk wo (by omega)
  have bl : (barW r (csOf h x)).steps.length ≤ 9 := by rw [bar_len]; omega
  have cw := cnj_wk wb (by omega) x 1
  have cl := cnj_len (w := w) (barW r (csOf h x)) x 1
  have ch : Ch w (cnjW w (barW r (csOf h x)) x 1).room ((cnjW w (barW r (csOf h x)) x 1).steps.map cr) r := by
    have e : (cnjW w (barW r (csOf h x)) x 1).steps.map cr = csOf h x ++ revc (csOf h x) := by
      show (joinW (joinW (barW r (csOf h x)) ⟨x, 1, []⟩) (backW w (barW r (csOf h x)))).steps.map cr = _
      rw [joinW_cr, joinW_cr, back_cr, bar_cr]
      show (csOf h x ++ []) ++ _ = _
      rw [List.append_nil]
      rfl
    rw [e, cnj_room]
    exact V.ch.app (ch_rev _ (fun c hc => (V.ok c hc).2) _ V.ch)
  have nl : n.natAbs * (cnjW w (barW r (csOf h x)) x 1).steps.length ≤ 20 * 18 := Nat.mul_le_mul hn (by omega)
  refine ⟨w, _, n, rfl, cw, by rw [endR_ch ch, cnj_room]; rfl, by omega, by omega, by omega, fun M m1 m2 m3 m4 m5 => ?_⟩
  have a := pow_act wb (by omega) m5
  refine hQ M ⟨by rw [m1, cnj_room]; rfl, m2, ?_, a⟩
  have := pow_len (x := x) wb (by omega) (fun z => by rw [m4 z]; rfl) m3 a
  omega
/-- the product so far -/
structure MdOk (w : Web) (r x : Int) (h : Hom) (i : Nat) (P : Ste) (M : Wlk) : Prop where
  rm : M.room = r
  wk : WK w M
  ln : M.steps.length ≤ 40 + i * 60
  ac : act w M ([], 0) = act w (backW w (barW r (csOf h x))) P
theorem MdOk.join {w : Web} {r x y : Int} {O : Int → List (Int × Int)} {h : Hom} {i : Nat} {P P' : Ste} {M N : Wlk} (wo : WebOk w 1000) (hr : w.rooms ≤ 10) (W : Wy w r O h) (K : MdOk w r x h i P M) (hi : i ≤ 14) (wn : WK w N) (ln : N.steps.length ≤ 60) (d : Nat) (hd : M.steps.length + N.steps.length ≤ 40 + d * 60)
    (ha : act w N (act w (backW w (barW r (csOf h x))) P) = act w (backW w (barW r (csOf h y))) P') : MdOk w r y h d P' (plainW w (joinW M N)) ∧ WK w (joinW M N) := by
  have kl := K.ln
  have hj : WK w (joinW M N) := joinW_wk K.wk wn (by omega)
  refine ⟨⟨by show (joinW M N).room = r; rw [joinW_room, K.rm], plain_wk hj, ?_, ?_⟩, hj⟩
  · rw [plain_ln]
    have := goW_len w (joinW M N)
    rw [joinW_len] at this
    omega
  · rw [← act_of_plain hj.so .nil, joinW_act, K.ac, ha]
abbrev C_law_product : Cn := fun rs g Q => ∃ (w : Web) (r : Int) (k : Wlk) (l : List Int) (h : Hom), rs = [.d (eW w), .d (.int r), .d (eK k), .d (.tuple ((toldW w r h l).map eK))] ∧ g = none ∧ RmO w r ∧ w.rooms ≤ 10 ∧ IsPiece w.ties r l ∧ Wy w r (outs w) h ∧ WK w k ∧ k.room = r ∧ Ch w r (k.steps.map cr) r ∧ k.steps.length ≤ 12 ∧ KB 20 k ∧
  ∀ M, M.room = r → WK w M → goW w M = goW w k → Q (.d (eK M)) g
def w_p2 : WS :=
  (sSeq (sAsg (eIx (eCallP C_law_ends (aCons (eName 0) (aCons (eName 6) (aCons (eName 11) aNil)))) (eC (.int 1))) (gN 10))
  (sAsg (eCallP C_law_plain (aCons (eName 0) (aCons (eCallP C_law_joined (aCons (eName 9) (aCons (eCallP C_law_power (aCons (eName 0) (aCons (eIxN 3 (eIdx 8 (eName 10))) (aCons (eName 12) aNil)))) aNil))) aNil))) (gN 9)))
def w_pl : WS :=
  (sFor (iTpl (eIxN 2 (eC (.int 2)))) (gT 3 (gsCons (gN 6) (gsCons (gN 11) (gsCons (gN 12) gsNil))))
  (sSeq (sIf (wB (eScR 5 (inD true) (eName 6))) (sSeq (sAsg (eIxN 3 (eOp addD (eLenN 8) (eIdx 7 (eName 6)))) (gN 13))
  (sAsg (eCallP C_law_plain (aCons (eName 0) (aCons (eCallP C_law_joined (aCons (eName 9) (aCons (eIf (wB (eScL 11 (eqD false) (eC (.int 1)))) (eName 13) (eCallP C_law_back (aCons (eName 0) (aCons (eName 13) aNil)))) aNil))) aNil))) (gN 9))) sNil)
  w_p2))
def w_law_product : WS :=
  (sSeq (sAsg (eFrzC (eCallP C_law_home (aCons (eName 0) (aCons (eName 1) aNil)))) (gN 4))
  (sSeq (sAsg (eLc (iDk (eName 4)) (gN 14) (wB (eSc (eqD true) (eDIxF 4 (eName 14)) (eLst aNil))) (eIx (eIx (eDIxF 4 (eName 14)) (eUn negD (eC (.int 1)))) (eC (.int 0))) [14]) (gN 5))
  (sSeq (sAsg (eLc (iRg1 (aCons (eCB lenC (aCons (eIxN 0 (eC (.int 1))) aNil)) aNil)) (gN 6) (wAnd (wB (eDInF false 4 (eIx (eIx (eIxN 0 (eC (.int 1))) (eName 6)) (eC (.int 0))))) (wB (eScR 5 (inD true) (eName 6)))) (eName 6) [6]) (gN 7))
  (sSeq (sAsg (eLstF (eName 4)) (gN 8))
  (sSeq (sPar2 9 10 (eCallP C_law_power (aCons (eName 0) (aCons (eIxN 3 (eIdx 8 (eName 1))) (aCons (eIxN 2 (eC (.int 1))) aNil)))) (eName 1))
  (sSeq w_pl
  (sRet (eName 9))))))))
theorem len_law_product (rs : List Rv) (g : Option Nat) (Q : Rv → Option Nat → Prop) (h : C_law_product rs g Q) : rs.length = 4 := by
  obtain ⟨_, _, _, _, _, rfl, _⟩ := h
  rfl
def ringT (w : Web) (h : Hom) (l : List Int) : List Int := (tiesIn w l).filter fun t => decide (¬ t ∈ treeOf h)
def envF (w : Web) (r : Int) (k : Wlk) (L : List Wlk) (h : Hom) (l : List Int) (M : Wlk) (x : Int) (x6 x11 x12 x13 : Option Px) : List (Option Rv) := [some (.d (eW w)), some (.d (.int r)), some (.d (eK k)), some (.d (.tuple (L.map eK))), some (.d (eDc (eHm h))), some (.own ((treeOf h).map .int)), x6.map .d, some (.own ((ringT w h l).map .int)), some (.own ((h.map (·.1)).map .int)), some (.d (eK M)), some (.d (.int x)), x11.map .d, x12.map .d, x13.map .d, none]
theorem go_k {w : Web} (P : Ste) (s : Stp) : go1 w P s = bmp s.k (go1 w P (stp0 (s.tie, s.side))) := by
  have := go1_add (w := w) (a := P) (t := s.tie) (s := s.side) (k := 0) (d := s.k)
  rw [Int.zero_add] at this
  exact this
theorem run_p2 {w : Web} {r : Int} {k : Wlk} {l : List Int} {h : Hom} {M : Wlk} {s : Stp} {P : Ste} {i : Nat} {x : Int} {x13 : Option Px} {R : Fl → Prop} (Rm : RmO w r) (hr : w.rooms ≤ 10) (W : Wy w r (outs w) h) (sc : CrOk w s.tie s.side) (sk : s.k.natAbs ≤ 20) (hP : Red w P.1) (ky : (eCr w (s.tie, s.side)).w ∈ h.map (·.1)) (hi : i < 12) (mr : M.room = r) (mw : WK w M) (ml : M.steps.length ≤ 40 + i * 60 + 19)
    (hA : act w (barW r (csOf h (eCr w (s.tie, s.side)).w)) (act w M ([], 0)) = go1 w P (stp0 (s.tie, s.side))) (hm : Red w (act w M ([], 0)).1)
    (hR : ∀ M' : Wlk, MdOk w r (eCr w (s.tie, s.side)).w h (i + 1) (go1 w P s) M' → R (.nx ⟨envF w r k (toldW w r h l) h l M' (eCr w (s.tie, s.side)).w (some (.int s.tie)) (some (.int s.side)) (some (.int s.k)) x13, none⟩)) :
    w_p2 ⟨envF w r k (toldW w r h l) h l M x (some (.int s.tie)) (some (.int s.side)) (some (.int s.k)) x13, none⟩ R (fun _ _ => False) := by
  have wo := Rm.wo
  obtain ⟨⟨z, hz⟩, hsd⟩ := sc
  have he : eCr w (s.tie, s.side) = rev z s.side := e_of (s := ⟨s.tie, s.side, 0⟩) hz
  have tt := told_turn (l := l) W ky
  simp only [w_p2]
  simp -dsimp only [rR_, envF, Option.map_some]
  refine ⟨w, s.tie, s.side, z, rfl, hz, ?_⟩
  rw [← he]
  simp -dsimp only [rR_, eT]
  refine ⟨⟨_, rfl⟩, h.map (·.1), rfl, ky, ?_⟩
  rw [ixtn tt]
  try simp -dsimp only [rR_]
  refine call_pow wo hr W ky sk fun N K => ?_
  have nl := K.ln
  try simp -dsimp only [rR_]
  have hj : WK w (joinW M N) := joinW_wk mw K.wk (by omega)
  refine ⟨M, N, rfl, by omega, ?_⟩
  try simp -dsimp only [rR_]
  refine ⟨w, joinW M N, rfl, hj, ?_⟩
  try simp -dsimp only [rR_]
  refine hR _ ⟨by show (joinW M N).room = r; rw [joinW_room, mr], plain_wk hj, ?_, ?_⟩
  · rw [plain_ln]
    have := goW_len w (joinW M N)
    rw [joinW_len] at this
    omega
  · rw [← act_of_plain hj.so .nil, joinW_act, K.ac _ hm, hA, ← go_k]
theorem run_pl {w : Web} {r : Int} {k : Wlk} {l : List Int} {h : Hom} {M : Wlk} {x6 x11 x12 x13 : Option Px} {R : Fl → Prop} (Rm : RmO w r) (hr : w.rooms ≤ 10) (hl : IsPiece w.ties r l) (W : Wy w r (outs w) h) (wk : WK w k) (kr : k.room = r) (kc : Ch w r (k.steps.map cr) r) (kl : k.steps.length ≤ 12) (kb : KB 20 k) (m0 : MdOk w r r h 0 ([], k.k) M)
    (hR : ∀ (M : Wlk) (x6 x11 x12 x13 : Option Px), M.room = r → WK w M → goW w M = goW w k → R (.nx ⟨envF w r k (toldW w r h l) h l M r x6 x11 x12 x13, none⟩)) :
    w_pl ⟨envF w r k (toldW w r h l) h l M r x6 x11 x12 x13, none⟩ R (fun _ _ => False) := by
  have wo := Rm.wo
  have eK2 : ∀ q : Px → Prop, ixD (eK k) (.int 2) q = q (.tuple (k.steps.map eS)) := fun q => by unfold eK; rw [ixt2]
  simp only [w_pl]
  simp -dsimp only [rR_, envF, eK2]
  simp only [forH]
  refine forW_ind _ (fun i c => ∃ (M : Wlk) (x : Int) (x6 x11 x12 x13 : Option Px), MdOk w r x h i ((k.steps.take i).foldl (go1 w) ([], k.k)) M ∧ Ch w r ((k.steps.take i).map cr) x ∧ c = ⟨envF w r k (toldW w r h l) h l M x x6 x11 x12 x13, none⟩) (fun i y c hx hI R' hR' => ?_) (fun c hI => ?_) _ ⟨M, r, x6, x11, x12, x13, m0, .nil, rfl⟩
  · obtain ⟨M, x, x6, x11, x12, x13, K, hc, rfl⟩ := hI
    obtain ⟨s, hs, rfl⟩ := map_at hx
    have hi : i < k.steps.length := (List.getElem?_eq_some_iff.mp hs).1
    have sm := List.mem_of_getElem? hs
    have sc : CrOk w s.tie s.side := wk.st s sm
    have tk : k.steps.take (i + 1) = k.steps.take i ++ [s] := by rw [List.take_succ, hs]; rfl
    have sv : (eCr w (s.tie, s.side)).v = x ∧ Ch w r ((k.steps.take (i + 1)).map cr) (eCr w (s.tie, s.side)).w := by
      obtain ⟨h1, H1, H2⟩ := Ch.split (w := w) (r := r) (l := (k.steps.take (i + 1)).map cr) ((k.steps.drop (i + 1)).map cr) r (by rw [← List.map_append, List.take_append_drop]; exact kc)
      rw [tk, List.map_append] at H1
      obtain ⟨G1, G2⟩ := H1.inv
      have e := hc.end
      have e2 := G1.end
      refine ⟨?_, by rw [tk, List.map_append]; exact .snoc (cr s) hc (e2.trans e.symm)⟩
      exact e2.trans e.symm
    obtain ⟨sx, hc'⟩ := sv
    have cnx : Conn w.ties r x := ch_conn hc fun c hcc => by
      obtain ⟨q, hq, rfl⟩ := List.mem_map.mp hcc
      exact wk.st q (List.mem_of_mem_take hq)
    have kx := W.keys cnx
    have cny : Conn w.ties r (eCr w (s.tie, s.side)).w := by
      have := cr_conn (c := (s.tie, s.side)) sc
      rw [sx] at this
      exact cnx.trans this
    have ky := W.keys cny
    have P0 : Red w ((k.steps.take i).foldl (go1 w) ([], k.k)).1 := Red.fold (fun q hq => ((wk.so q (List.mem_of_mem_take hq)).p0)) .nil
    have fs : (k.steps.take (i + 1)).foldl (go1 w) ([], k.k) = go1 w ((k.steps.take i).foldl (go1 w) ([], k.k)) s := by rw [tk, List.foldl_append]; rfl
    have fin : ∀ (x13 : Option Px) (M' : Wlk), MdOk w r (eCr w (s.tie, s.side)).w h (i + 1) (go1 w ((k.steps.take i).foldl (go1 w) ([], k.k)) s) M' → R' ⟨envF w r k (toldW w r h l) h l M' (eCr w (s.tie, s.side)).w (some (.int s.tie)) (some (.int s.side)) (some (.int s.k)) x13, none⟩ := fun x13 M' h' => hR' _ ⟨M', _, _, _, _, x13, by rw [fs]; exact h', hc', rfl⟩
    generalize (k.steps.take i).foldl (go1 w) ([], k.k) = P at K P0 fin ⊢
    have Vx := W.way kx
    have Vy := W.way ky
    have vx := Vx.ln
    have vy := Vy.ln
    have wx : WK w (barW r (csOf h x)) := Vx.wk wo (by omega)
    have wy : WK w (barW r (csOf h (eCr w (s.tie, s.side)).w)) := Vy.wk wo (by omega)
    have X := leg_of wx
    have Y := leg_of wy
    have kln := K.ln
    obtain ⟨so1, so2⟩ := cr_so (c := (s.tie, s.side)) wo sc
    have g1 : Red w (go1 w P (stp0 (s.tie, s.side))).1 := P0.go (s := stp0 (s.tie, s.side)) so1.p0
    have sk := kb.s s sm
    generalize hV : w_p2 = V
    simp -dsimp only [rR_, envF, eS, gT_d]
    rw [inT_l]
    try simp -dsimp only [rR_]
    by_cases ht : s.tie ∈ treeOf h
    · simp -dsimp only [rR_, ht, decide_true, Bool.not_true]
      rw [← hV]
      refine run_p2 (x13 := x13) (P := P) (i := i) Rm hr W sc (by omega) P0 ky (by omega) K.rm K.wk (by omega) ?_ (by rw [K.ac]; exact X.rb P P0) fun M' h' => fin x13 M' h'
      rw [K.ac]
      have := tree_step wo (by omega) W sc ht (by rw [sx]; exact kx) ky P P0
      rw [sx] at this
      exact this
    · simp -dsimp only [rR_, ht, decide_false, Bool.not_false]
      obtain ⟨⟨z, i0, hi0, hz0⟩, hsd⟩ := sc
      have hz : Web.at w s.tie z := ⟨i0, hi0, hz0⟩
      have he : eCr w (s.tie, s.side) = rev z s.side := e_of (s := ⟨s.tie, s.side, 0⟩) hz
      have ht2 : s.tie ∈ ringT w h l := by
        refine List.mem_filter.mpr ⟨?_, by simpa using ht⟩
        have e := outs_in hl cnx
        have hm : (s.tie, s.side) ∈ outs w x := mem_outs ⟨⟨z, hz⟩, hsd⟩ sx
        rw [← e] at hm
        simpa using (List.mem_filter.mp hm).2
      have tr := told_ring (w := w) (r := r) (h := h) ht2
      have tz := hz.tie
      have ei : (((((h.map (·.1)).map PyData.int).length : Nat) : Int) + (((ringT w h l).idxOf s.tie : Nat) : Int)) = ((h.length + (ringT w h l).idxOf s.tie : Nat) : Int) := by
        rw [List.length_map, List.length_map]
        rfl
      refine ⟨⟨_, rfl⟩, ringT w h l, rfl, ht2, ?_⟩
      rw [ei]
      have tr : ((toldW w r h l).map eK)[h.length + (ringT w h l).idxOf s.tie]? = some (eK (ringW w r h s.tie)) := tr
      rw [ixtn tr]
      have cz : CrOk w s.tie 1 := ⟨⟨z, hz⟩, .inl rfl⟩
      have zc : eCr w (s.tie, 1) = z := e_of (s := ⟨s.tie, 1, 0⟩) hz
      have kv : z.v ∈ h.map (·.1) ∧ z.w ∈ h.map (·.1) := by
        rw [he] at sx ky
        unfold rev at sx ky
        split at sx
        · rw [if_pos (by assumption)] at ky
          exact ⟨by rw [sx]; exact kx, ky⟩
        · rw [if_neg (by assumption)] at ky
          have sx : z.w = x := sx
          exact ⟨ky, by rw [sx]; exact kx⟩
      have Uv := W.way kv.1
      have Uw := W.way kv.2
      have uv := Uv.ln
      have uw := Uw.ln
      have wv : WK w (barW r (csOf h z.v)) := Uv.wk wo (by omega)
      have ww : WK w (barW r (csOf h z.w)) := Uw.wk wo (by omega)
      have rlen : (ringW w r h s.tie).steps.length ≤ 19 := by
        show (joinW (joinW (barW r (csOf h (w.tie s.tie).v)) ⟨(w.tie s.tie).v, 0, [stp0 (s.tie, 1)]⟩) (backW w (barW r (csOf h (w.tie s.tie).w)))).steps.length ≤ 19
        rw [joinW_len, joinW_len, back_len, bar_len, bar_len, tz]
        show _ + 1 + _ ≤ 19
        omega
      have wrr : WK w (ringW w r h s.tie) := by
        have w1 : WK w (⟨z.v, 0, [stp0 (s.tie, 1)]⟩ : Wlk) := ⟨wo, fun q hq => by rw [List.mem_singleton.mp hq]; exact cz, by show 1 ≤ 1000; omega⟩
        have := joinW_wk (joinW_wk wv w1 (by rw [bar_len]; show _ + 1 ≤ 1000; omega)) (back_wk ww) (by rw [joinW_len, back_len, bar_len, bar_len]; show _ + 1 + _ ≤ 1000; omega)
        show WK w (joinW (joinW (barW r (csOf h (w.tie s.tie).v)) ⟨(w.tie s.tie).v, 0, [stp0 (s.tie, 1)]⟩) (backW w (barW r (csOf h (w.tie s.tie).w))))
        rw [tz]
        exact this
      have xb := X.rb P P0
      have last : ∀ N : Wlk, WK w N → N.steps.length ≤ 19 → (act w N (act w (backW w (barW r (csOf h x))) P) = act w (backW w (barW r (csOf h (eCr w (s.tie, s.side)).w))) (go1 w P (stp0 (s.tie, s.side)))) → M.steps.length + N.steps.length ≤ 1000 ∧ WK w (joinW M N) ∧ ∀ R2 : Fl → Prop, (∀ M' : Wlk, MdOk w r (eCr w (s.tie, s.side)).w h (i + 1) (go1 w P s) M' → R2 (.nx ⟨envF w r k (toldW w r h l) h l M' (eCr w (s.tie, s.side)).w (some (.int s.tie)) (some (.int s.side)) (some (.int s.k)) (some (eK (ringW w r h s.tie))), none⟩)) → V ⟨envF w r k (toldW w r h l) h l (plainW w (joinW M N)) x (some (.int s.tie)) (some (.int s.side)) (some (.int s.k)) (some (eK (ringW w r h s.tie))), none⟩ R2 (fun _ _ => False) := fun N wn ln ha => by
        refine ⟨by omega, joinW_wk K.wk wn (by omega), fun R2 hR2 => ?_⟩
        have hj : WK w (joinW M N) := joinW_wk K.wk wn (by omega)
        rw [← hV]
        have a1 : act w (plainW w (joinW M N)) ([], 0) = act w (backW w (barW r (csOf h (eCr w (s.tie, s.side)).w))) (go1 w P (stp0 (s.tie, s.side))) := by rw [← act_of_plain hj.so .nil, joinW_act, K.ac, ha]
        have l1 : (plainW w (joinW M N)).steps.length ≤ 40 + i * 60 + 19 := by
          rw [plain_ln]
          have := goW_len w (joinW M N)
          rw [joinW_len] at this
          omega
        exact run_p2 (P := P) (i := i) Rm hr W ⟨⟨z, hz⟩, hsd⟩ (by omega) P0 ky (by omega) (by show (joinW M N).room = r; rw [joinW_room, K.rm]) (plain_wk hj) l1 (by rw [a1, Y.ab _ g1]) (by rw [a1]; exact Y.rb _ g1) hR2
      rcases hsd with es | es
      · have e1 : eCr w (s.tie, s.side) = z := by rw [he, es]; rfl
        have sx1 : z.v = x := by rw [← sx, e1]
        obtain ⟨j1, j2, j3⟩ := last (ringW w r h s.tie) wrr rlen (by rw [ring_act, tz, sx1, X.ab P P0, e1, es])
        have b1 : (s.side == 1) = true := by rw [es]; rfl
        rw [if_pos b1]
        refine ⟨M, ringW w r h s.tie, rfl, j1, ?_⟩
        try simp -dsimp only [rR_]
        refine ⟨w, joinW M (ringW w r h s.tie), rfl, j2, ?_⟩
        try simp -dsimp only [rR_]
        exact j3 _ fun M' h' => fin (some _) M' h'
      · have e1 : eCr w (s.tie, s.side) = ⟨z.w, z.v, z.q, z.p⟩ := by rw [he, es]; unfold rev; rw [if_neg (by decide)]
        have sx1 : z.w = x := by rw [← sx, e1]
        have rb := ring_back (w := w) (r := r) (h := h) (t := s.tie) wo (by rw [tz]; exact wv) (by rw [tz]; exact ww) wrr cz _ xb
        obtain ⟨j1, j2, j3⟩ := last (backW w (ringW w r h s.tie)) (back_wk wrr) (by rw [back_len]; exact rlen) (by rw [rb, tz, sx1, X.ab P P0, e1, es])
        have b1 : ¬ (s.side == 1) = true := by rw [es]; decide
        rw [if_neg b1]
        refine ⟨w, ringW w r h s.tie, rfl, wrr, ?_⟩
        try simp -dsimp only [rR_]
        refine ⟨M, backW w (ringW w r h s.tie), rfl, j1, ?_⟩
        try simp -dsimp only [rR_]
        refine ⟨w, joinW M (backW w (ringW w r h s.tie)), rfl, j2, ?_⟩
        try simp -dsimp only [rR_]
        exact j3 _ fun M' h' => fin (some _) M' h'
  · obtain ⟨M, x, x6, x11, x12, x13, K, hc, rfl⟩ := hI
    rw [List.length_map, List.take_length] at K hc
    have ex : x = r := by
      have e1 := hc.end
      have e2 := kc.end
      exact e1.trans e2.symm
    subst ex
    refine hR M x6 x11 x12 x13 K.rm K.wk ?_
    have ac := K.ac
    rw [W.root] at ac
    have bn : ∀ z : Ste, act w (backW w (barW x [])) z = z := fun z => by
      show (z.1, z.2 + -0) = z
      simp
    rw [bn] at ac
    rw [goW_act, ac]
    rfl
end K
set_option Elab.async false
set_option maxRecDepth 100000
set_option linter.all false
set_option autoImplicit false
set_option maxHeartbeats 4000000
namespace K
open PySem L2 Dl
variable [TabF]
theorem spec_law_product (rs : List Rv) (g : Option Nat) (Q : Rv → Option Nat → Prop) (h : C_law_product rs g Q) : w_law_product (startC 15 rs g) (endP Q) fun _ _ => False := by
  obtain ⟨w, r, k, l, h, rfl, rfl, R, hr, hl, W, wk, kr, kc, kl, kb, hQ⟩ := h
  have wo := R.wo
  have eW1 : ∀ q : Px → Prop, ixD (eW w) (.int 1) q = q (.tuple (w.ties.map eT)) := fun q => by unfold eW; rw [ixt1]
  have eK1 : ∀ q : Px → Prop, ixD (eK k) (.int 1) q = q (.int k.k) := fun q => by unfold eK; rw [ixt1]
  generalize hV : w_pl = V
  simp only [w_law_product, hV]
  simp -dsimp only [startC, List.map_cons, List.map_nil, List.cons_append, List.nil_append, List.length_cons, List.length_nil, Nat.reduceSub, Nat.reduceAdd, List.replicate_succ, List.replicate_zero]
  try simp -dsimp only [rR_]
  refine ⟨w, r, rfl, wo, R.tl, R.rl, R.r0, R.r1, fun h2 H hc hb => ?_⟩
  obtain rfl : h2 = h := W.uniq ⟨H, hc, hb, from_outs w⟩
  have hrm : h2.length ≤ 300 := by have := H.un; omega
  have nd := W.nd
  have rt := R.tl
  have hlm : ∀ x, x ∈ l ↔ x ∈ h2.map (·.1) := fun x => ⟨fun hx => W.keys ((hl.mem x).mp hx), fun hx => (hl.mem x).mpr (by
    obtain ⟨p, hp, rfl⟩ := List.mem_map.mp hx
    obtain ⟨q1, q2, _⟩ := W.hm.en p hp
    exact ch_conn q2 q1)⟩
  try simp -dsimp only [rR_]
  refine ⟨by simp [nown], ?_⟩
  simp only [lcH]
  rw [key_hm]
  refine lcW_fma PyData.int (fun x => (csOf h2 x).getLast?.map fun c => PyData.int c.1) (h2.map (·.1)) [] (fun x hx R' S hR hS => ?_) (by simp; omega) ?_
  · obtain ⟨_, lk⟩ := eHm_look2 hx
    simp -dsimp only [rR_, Turn1, wipeE]
    refine ⟨_, lk, by decide, ?_⟩
    rw [eqt_lnil]
    try simp -dsimp only [rR_]
    rcases List.eq_nil_or_concat (csOf h2 x) with e | ⟨cs, c, e⟩
    · rw [e]
      simp -dsimp only [rR_, List.map_nil, List.isEmpty_nil, Bool.not_true]
      exact hS (by rw [e]; rfl)
    · rw [List.concat_eq_append] at e
      rw [e] at lk ⊢
      rw [if_pos (by simp)]
      refine ⟨_, lk, ?_⟩
      rw [List.map_append]
      simp -dsimp only [rR_, List.map_cons, List.map_nil, ixll, eC2]
      exact hR _ (by rw [e]; simp)
  · rw [List.nil_append, fm_tree h2 nd]
    simp -dsimp only [rR_, eW1]
    rw [List.length_map]
    refine ⟨by unfold smI; omega, by simp [nown], ?_⟩
    simp only [lcH]
    rw [rngX_map]
    refine lcW_fma (fun i : Nat => PyData.int (0 + (i : Int))) (fun i : Nat => if (w.tie (i : Int)).v ∈ l ∧ ¬ (i : Int) ∈ treeOf h2 then some (PyData.int (i : Int)) else none) (List.range w.ties.length) [] (fun i hi R' S hR hS => ?_) (by simp; omega) ?_
    · have hi : i < w.ties.length := List.mem_range.mp hi
      have eti : (w.ties.map eT)[i]? = some (eT (w.tie (i : Int))) := by rw [List.getElem?_map, tie_get hi]; rfl
      have z0 : (0 : Int) + (i : Int) = (i : Int) := by omega
      have eix : ∀ q : Px → Prop, ixD (.tuple (w.ties.map eT)) (.int (i : Int)) q = q (eT (w.tie (i : Int))) := fun q => ixtn eti
      simp -dsimp only [rR_, Turn1, wipeE, eW1, z0, eix, eT]
      by_cases hv : (w.tie (i : Int)).v ∈ h2.map (·.1)
      · obtain ⟨_, lk⟩ := eHm_look2 hv
        rw [lk]
        simp -dsimp only [rR_, Option.isSome_some]
        rw [inT_l]
        try simp -dsimp only [rR_]
        by_cases hm : (i : Int) ∈ treeOf h2
        · simp -dsimp only [rR_, hm, decide_true, Bool.not_true]
          exact hS (if_neg fun y => y.2 hm)
        · simp -dsimp only [rR_, hm, decide_false, Bool.not_false]
          exact hR _ (if_pos ⟨(hlm _).mpr hv, hm⟩)
      · rw [eHm_none hv]
        simp -dsimp only [rR_, Option.isSome_none]
        exact hS (if_neg fun y => hv ((hlm _).mp y.1))
    · rw [List.nil_append, fm_rings]
      have er : ((((List.range w.ties.length).filter fun i : Nat => decide ((w.tie (i : Int)).v ∈ l)).map fun i : Nat => (i : Int)).filter fun t => decide (¬ t ∈ treeOf h2)) = ringT w h2 l := rfl
      rw [er]
      simp -dsimp only [rR_, eLstF, key_hm, eK1]
      have tt := told_turn (l := l) W W.hm.st
      refine ⟨⟨_, rfl⟩, h2.map (·.1), rfl, W.hm.st, ?_⟩
      rw [ixtn tt]
      have kk := kb.k
      refine call_pow wo hr W W.hm.st (by omega) fun N K => ?_
      have m0 : MdOk w r r h2 0 ([], k.k) N := ⟨K.rm, K.wk, by have := K.ln; omega, by
        rw [K.ac _ .nil, W.root, bar_nil]
        show act w (backW w (barW r [])) ([], 0 + k.k) = _
        rw [Int.zero_add]⟩
      try simp -dsimp only [rR_]
      rw [← hV]
      refine run_pl (x6 := none) (x11 := none) (x12 := none) (x13 := none) R hr hl W wk kr kc kl kb m0 fun M x6 x11 x12 x13 q1 q2 q3 => ?_
      simp -dsimp only [rR_, envF]
      exact hQ M q1 q2 q3
end K
set_option Elab.async false
set_option maxRecDepth 100000
set_option linter.all false
set_option autoImplicit false
set_option maxHeartbeats 4000000
namespace K
open PySem L2 Dl
variable [TabF]
theorem hit {h : HndO} {r : List HndO} {x : Xn} {k : Px → Prop} {d : Px} (e : x.cls = h.cls) (v : h.out.val x = some d) (q : k d) : heardX (h :: r) x k := by
  unfold heardX
  rw [if_pos e]
  exact ⟨d, v, q⟩
theorem eqt_shR {d : Px} {e b : Nat} (h : Sho e b d) {P : Rv → Prop} : eqD true (.str (PyData.shown d)) (.str (PyData.shown d)) P = P (.d (.bool false)) := by
  have e : PyData.eqv (.str (PyData.shown d)) (.str (PyData.shown d)) = true := by simp [PyData.eqv]
  simp only [eqD, sh_str h.ok, e, true_and]
  rfl
theorem Sho.tup3 {e a b c : Nat} {x y z : Px} (hx : Sho e a x) (hy : Sho e b y) (hz : Sho e c z) : Sho (e + 1) (a + b + c + 9) (.tuple [x, y, z]) := by
  refine ⟨by simp [PyData.showable, PyData.showableAll, hx.sh, hy.sh, hz.sh], by simp [PyData.hasDict, PyData.hasDictAll, hx.nd, hy.nd, hz.nd], ?_, ?_, ?_⟩
  · have := hx.dp
    have := hy.dp
    have := hz.dp
    simp only [PyData.depth, PyData.depthAll]
    omega
  · have t := tupleText_len_le (PyData.shownAll [x, y, z])
    have := hx.ln
    have := hy.ln
    have := hz.ln
    simp only [PyData.shownAll, List.map_cons, List.map_nil, List.sum_cons, List.sum_nil, List.length_cons, List.length_nil] at t
    show (tupleText (PyData.shownAll [x, y, z])).length ≤ _
    simp only [PyData.shownAll]
    omega
  · show PyData.strOk (tupleText (PyData.shownAll [x, y, z])) = true
    refine ok_tuple fun t ht => ?_
    simp only [PyData.shownAll, List.mem_cons, List.not_mem_nil, or_false] at ht
    rcases ht with rfl | rfl | rfl
    · exact hx.ok
    · exact hy.ok
    · exact hz.ok
theorem sho_str {s : Str} (h : (PyData.shown (.str s)).length ≤ 1000 ∧ PyData.strOk (PyData.shown (.str s)) = true ∧ (PyData.str s).showable = true) : Sho 3 1000 (.str s) := ⟨h.2.2, rfl, Nat.zero_le _, h.1, h.2.1⟩
theorem sho_word : Sho 3 1000 (.str "told") ∧ Sho 3 1000 (.str "many") ∧ Sho 3 1000 (.str "steps") ∧ Sho 3 1000 (.str "great") ∧ Sho 3 1000 (.str "turns") ∧ Sho 3 1000 (.str "joined") ∧ Sho 3 1000 (.str "closed") := by
  refine ⟨?_, ?_, ?_, ?_, ?_, ?_, ?_⟩ <;> exact sho_str ⟨by decide +kernel, by decide +kernel, by decide⟩
theorem sho_rm (i : Int) (h : i.natAbs ≤ 1000) : Sho 40 1000000 (.tuple [.str "room", .int i]) := by
  have hs : Sho 0 1000 (.str "room") := ⟨by decide, rfl, Nat.zero_le _, by decide +kernel, by decide +kernel⟩
  refine (Sho.tup (e := 0) (b := 1921) (n := 2) (fun x hx => ?_) (by simp)).mono (by decide) (by decide)
  simp only [List.mem_cons, List.not_mem_nil, or_false] at hx
  rcases hx with rfl | rfl
  · exact hs.mono (Nat.le_refl _) (by decide)
  · exact Sho.int (log_pow2 (n := 1) h (by decide))
theorem sho_9 {w : Web} {k : Wlk} (hs : StepsOk w k.steps) (ht : w.ties.length ≤ 1000) (hl : k.steps.length ≤ 9) (hr : k.room.natAbs ≤ 1000) (hn : NB 1000 k) : Sho 3 56000 (eK k) := by
  have lgs : ∀ {x : Int}, x.natAbs ≤ 1000 → x.natAbs.log2 < 1920 := fun h => log_pow2 (n := 1) h (by decide)
  refine (Sho.tup3 (e := 2) (a := 1921) (b := 1921) (c := 51969) (Sho.int (lgs hr)) (Sho.int (lgs (hn _ List.mem_cons_self))) ?_).mono (by decide) (by decide)
  refine (Sho.tup (e := 1) (b := 5772) (n := 9) (fun x hx => ?_) (by rw [List.length_map]; exact hl)).mono (by decide) (by decide)
  obtain ⟨s, hsm, rfl⟩ := List.mem_map.mp hx
  obtain ⟨⟨y, i, hi, hy⟩, hsd⟩ := hs s hsm
  have hlt := (List.getElem?_eq_some_iff.mp hy).1
  exact Sho.tup3 (e := 0) (a := 1921) (b := 1921) (c := 1921) (Sho.int (lgs (by omega))) (Sho.int (lgs (by rcases hsd with h | h <;> rw [h] <;> decide))) (Sho.int (lgs (hn _ (List.mem_cons_of_mem _ (List.mem_map_of_mem hsm)))))
theorem nb_bar (r : Int) (cs : List (Int × Int)) : NB 0 (barW r cs) := fun x hx => by
  have : x = 0 := by
    rcases List.mem_cons.mp hx with z | z
    · exact z
    · obtain ⟨s, hs, rfl⟩ := List.mem_map.mp z
      obtain ⟨c, _, rfl⟩ := List.mem_map.mp hs
      rfl
  rw [this]
  decide
theorem nb_up {A B : Nat} {k : Wlk} (h : NB A k) (l : A ≤ B) : NB B k := fun x hx => Nat.le_trans (h x hx) l
theorem tup_sho {ks : List Wlk} (h : ∀ k ∈ ks, Sho 3 56000 (eK k)) (hl : ks.length ≤ 16) : Sho 40 1000000 (.tuple (ks.map eK)) := by
  refine (Sho.tup (e := 3) (b := 56000) (n := 16) (fun x hx => ?_) (by rw [List.length_map]; exact hl)).mono (by decide) (by decide)
  obtain ⟨k, hk, rfl⟩ := List.mem_map.mp hx
  exact h k hk
/-- all that is told can be shown -/
theorem bar_sho {w : Web} {r x : Int} {O : Int → List (Int × Int)} {h : Hom} (Rm : RmO w r) (hr : w.rooms ≤ 5) (W : Wy w r O h) (hx : x ∈ h.map (·.1)) : Sho 3 56000 (eK (barW r (csOf h x))) := by
  have V := W.way hx
  have := V.ln
  have r0 := Rm.r0
  have r1 := Rm.r1
  exact sho_9 (w := w) (bar_st V.ok) Rm.tl (by rw [bar_len]; omega) (by show r.natAbs ≤ 1000; omega) (nb_up (nb_bar _ _) (by decide))
theorem turn_sho {w : Web} {r : Int} {O : Int → List (Int × Int)} {h : Hom} (Rm : RmO w r) (hr : w.rooms ≤ 5) (W : Wy w r O h) {p : Int × List (Int × Int)} (hp : p ∈ h) : Sho 3 56000 (eK (turnW w r p)) := by
  have hx : p.1 ∈ h.map (·.1) := List.mem_map_of_mem hp
  have V := W.way hx
  rw [cs_of W.nd (x := p.1) (cs := p.2) (by rw [Prod.eta]; exact hp)] at V
  have := V.ln
  have r0 := Rm.r0
  have r1 := Rm.r1
  have wb : WK w (barW r p.2) := V.wk Rm.wo (by omega)
  have bl := bar_len r p.2
  rw [turn_cnj]
  refine sho_9 (w := w) (cnj_wk wb (by omega) _ _).st Rm.tl (by rw [cnj_len]; omega) (by rw [cnj_room]; show r.natAbs ≤ 1000; omega) ?_
  have n1 : NB 1 (⟨p.1, 1, []⟩ : Wlk) := fun x hx => by
    rw [List.mem_singleton.mp hx]
    exact (by decide : (1 : Int).natAbs ≤ 1)
  have := ((nb_bar r p.2).join n1).join (NB.back (w := w) (nb_bar r p.2))
  exact nb_up this (by decide)
theorem ring_sho {w : Web} {r : Int} {h : Hom} {l : List Int} (Rm : RmO w r) (hr : w.rooms ≤ 5) (hl : IsPiece w.ties r l) (W : Wy w r (outs w) h) {t : Int} (ht : t ∈ tiesIn w l) : Sho 3 56000 (eK (ringW w r h t)) := by
  obtain ⟨⟨z, hz⟩, cv, cw⟩ := ties_at hl ht
  have Uv := W.way (W.keys cv)
  have Uw := W.way (W.keys cw)
  have uv := Uv.ln
  have uw := Uw.ln
  have r0 := Rm.r0
  have r1 := Rm.r1
  have wv := Uv.wk Rm.wo (by omega)
  have ww := Uw.wk Rm.wo (by omega)
  have cz : CrOk w t 1 := ⟨⟨z, hz⟩, .inl rfl⟩
  have w1 : WK w (⟨(w.tie t).v, 0, [stp0 (t, 1)]⟩ : Wlk) := ⟨Rm.wo, fun q hq => by rw [List.mem_singleton.mp hq]; exact cz, by show 1 ≤ 1000; omega⟩
  have wr := joinW_wk (joinW_wk wv w1 (by rw [bar_len]; show _ + 1 ≤ 1000; omega)) (back_wk ww) (by rw [joinW_len, back_len, bar_len, bar_len]; show _ + 1 + _ ≤ 1000; omega)
  refine sho_9 (w := w) wr.st Rm.tl ?_ ?_ ?_
  · show (joinW (joinW (barW r (csOf h (w.tie t).v)) ⟨(w.tie t).v, 0, [stp0 (t, 1)]⟩) (backW w (barW r (csOf h (w.tie t).w)))).steps.length ≤ 9
    rw [joinW_len, joinW_len, back_len, bar_len, bar_len]
    show _ + 1 + _ ≤ 9
    omega
  · show (joinW (joinW (barW r (csOf h (w.tie t).v)) ⟨(w.tie t).v, 0, [stp0 (t, 1)]⟩) (backW w (barW r (csOf h (w.tie t).w)))).room.natAbs ≤ 1000
    rw [joinW_room, joinW_room]
    show r.natAbs ≤ 1000
    omega
  · have n1 : NB 0 (⟨(w.tie t).v, 0, [stp0 (t, 1)]⟩ : Wlk) := fun x hx => by
      have : x = 0 := by simpa [nums, stp0] using hx
      rw [this]
      decide
    have := ((nb_bar r (csOf h (w.tie t).v)).join n1).join (NB.back (w := w) (nb_bar r (csOf h (w.tie t).w)))
    exact nb_up this (by decide)
theorem rings_sho {w : Web} {r : Int} {h : Hom} {l : List Int} (Rm : RmO w r) (hr : w.rooms ≤ 5) (hl : IsPiece w.ties r l) (W : Wy w r (outs w) h) : ∀ k ∈ ringsOf w r h (tiesIn w l), Sho 3 56000 (eK k) := fun k hk => by
  obtain ⟨t, ht, rfl⟩ := List.mem_map.mp hk
  exact ring_sho Rm hr hl W (List.mem_filter.mp ht).1
theorem all_sho {w : Web} {r : Int} {h : Hom} {l : List Int} (Rm : RmO w r) (hr : w.rooms ≤ 5) (ht : w.ties.length ≤ 10) (hl : IsPiece w.ties r l) (W : Wy w r (outs w) h) : Sho 40 1000000 (.tuple ((ringsOf w r h (tiesIn w l)).map eK)) ∧ Sho 40 1000000 (.tuple ((toldW w r h l).map eK)) := by
  have rl := rings_len w r h l
  have un := W.hm.un
  refine ⟨tup_sho (rings_sho Rm hr hl W) (by omega), tup_sho (fun k hk => ?_) (by unfold toldW; rw [List.length_append, List.length_map]; omega)⟩
  rcases List.mem_append.mp hk with z | z
  · obtain ⟨p, hp, rfl⟩ := List.mem_map.mp z
    exact turn_sho Rm hr W hp
  · exact rings_sho Rm hr hl W k z
abbrev C_law_right : Cn := fun rs g Q => ∃ (n : Nat), rs = [.gen] ∧ g = some n ∧ n + 10000 ≤ 2 ^ 40 ∧ ∀ m : Nat, m ≤ n + 3000 → Q (.d (.bool true)) (some m)
def w_rb : WS :=
  (sSeq (sIf (wB (eSc (eqD true) (eCB reprM (aCons (eCallP Crings_at (aCons (eName 8) (aCons (eName 7) aNil))) aNil)) (eCB reprM (aCons (eCB tupC (aCons (eCallP C_law_rings (aCons (eName 8) (aCons (eName 7) aNil))) aNil)) aNil)))) (sRet (eC (.bool false))) sNil)
  (sSeq (sAsg (eCallP Csources_at (aCons (eName 8) (aCons (eName 7) aNil))) (gN 4))
  (sSeq (sIf (wB (eSc (eqD true) (eCB reprM (aCons (eName 4) aNil)) (eCB reprM (aCons (eCB tupC (aCons (eCallP C_law_sources (aCons (eName 8) (aCons (eName 7) aNil))) aNil)) aNil)))) (sRet (eC (.bool false))) sNil)
  (sSeq (sAsg (eCallG C_law_closed (aCons (eName 0) (aCons (eName 8) (aCons (eName 7) (aCons (eCallG C_law_draw (aCons (eName 0) (aCons (eC (.int 5)) aNil))) (aCons (eC (.int 5)) aNil)))))) (gN 5))
  (sRet (eSc (isBD false) (eCallP Care_equal (aCons (eName 8) (aCons (eName 5) (aCons (eCallP C_law_product (aCons (eName 8) (aCons (eName 7) (aCons (eName 5) (aCons (eName 4) aNil))))) aNil)))) (eC (.bool true))))))))
def w_ra : WS :=
  (sSeq (sAsg (eCallP C_law_home (aCons (eName 8) (aCons (eName 7) aNil))) (gN 2))
  (sSeq (sAsg (eIf (wB (eDIn false 2 (eName 6))) (eTup (aCons (eC (.str "told")) (aCons (eCallP C_law_bare (aCons (eName 7) (aCons (eDIx 2 (eName 6)) aNil))) aNil))) (eTup (aCons (eC (.str "room")) (aCons (eName 6) aNil)))) (gN 3))
  (sSeq (sIf (wB (eSc (eqD true) (eCB reprM (aCons (eHeard true (eCallX Cfirst_way (aCons (eName 8) (aCons (eName 7) (aCons (eName 6) aNil)))) ["NotInOne"] [⟨"NotInOne", 2, .tup [.st "room", .fl "room"]⟩]) aNil)) (eCB reprM (aCons (eName 3) aNil)))) (sRet (eC (.bool false))) sNil)
  w_rb)))
def w_law_right : WS :=
  (sSeq (sAsg (eOp addD (eC (.int 1)) (eCallG C_law_draw (aCons (eName 0) (aCons (eC (.int 5)) aNil)))) (gN 1))
  (sSeq (sAsg (eCallG C_law_web (aCons (eName 0) (aCons (eName 1) (aCons (eCallG C_law_draw (aCons (eName 0) (aCons (eC (.int 8)) aNil))) (aCons (eCallG C_law_of (aCons (eName 0) (aCons (eLst (aCons (eC (.int 2)) (aCons (eC (.int 9)) aNil))) aNil))) aNil))))) (gN 8))
  (sSeq (sAsg (eTup (aCons (eCallG C_law_draw (aCons (eName 0) (aCons (eName 1) aNil))) (aCons (eCallG C_law_draw (aCons (eName 0) (aCons (eName 1) aNil))) aNil))) (gT 2 (gsCons (gN 7) (gsCons (gN 6) gsNil))))
  w_ra)))
theorem len_law_right (rs : List Rv) (g : Option Nat) (Q : Rv → Option Nat → Prop) (h : C_law_right rs g Q) : rs.length = 1 := by
  obtain ⟨_, rfl, _⟩ := h
  rfl
def envQ (w : Web) (r o : Int) (n : Int) (y2 : Option Rv) (x3 x4 x5 : Option Px) : List (Option Rv) := [some .gen, some (.d (.int n)), y2, x3.map .d, x4.map .d, x5.map .d, some (.d (.int o)), some (.d (.int r)), some (.d (eW w))]
theorem run_rb {w : Web} {r o n0 : Int} {h : Hom} {n : Nat} {x3 x4 x5 : Option Px} {R : Fl → Prop} (Rm : RmO w r) (hr : w.rooms ≤ 5) (ht : w.ties.length ≤ 10) (W : Wy w r (outs w) h) (hn : n + 2000 ≤ 2 ^ 40)
    (hR : ∀ m, m ≤ n + 1500 → R (.rt (.d (.bool true)) (some m))) :
    w_rb ⟨envQ w r o n0 (some (.dic (.k (eHm h)))) x3 x4 x5, some n⟩ R (fun _ _ => False) := by
  obtain ⟨l, hl, _⟩ := home_piece W
  obtain ⟨s1, s2⟩ := all_sho Rm hr ht hl W
  have wo := Rm.wo
  simp only [w_rb]
  simp -dsimp only [rR_, envQ]
  refine ⟨w, r, rfl, rfl, Rm, by omega, fun l1 h1 hl1 W1 => ?_⟩
  obtain rfl : l1 = l := hl1.uniq hl
  obtain rfl : h1 = h := W.uniq W1
  try simp -dsimp only [rR_]
  refine ⟨s1, w, r, rfl, rfl, Rm, by omega, fun l2 h2 hl2 W2 => ?_⟩
  obtain rfl : l2 = l1 := hl2.uniq hl
  obtain rfl : h2 = h1 := W.uniq W2
  try simp -dsimp only [rR_]
  refine ⟨s1, ?_⟩
  rw [eqt_shR s1]
  try simp -dsimp only [rR_]
  refine ⟨w, r, rfl, rfl, Rm, by omega, fun l1 h1 hl1 W1 => ?_⟩
  obtain rfl : l1 = l2 := hl1.uniq hl
  obtain rfl : h1 = h2 := W.uniq W1
  have tw : h1.map (turnW w r) ++ ringsOf w r h1 (tiesIn w l1) = toldW w r h1 l1 := rfl
  rw [tw]
  try simp -dsimp only [rR_]
  refine ⟨s2, w, r, rfl, rfl, Rm, by omega, fun l2 h2 hl2 W2 => ?_⟩
  obtain rfl : l2 = l1 := hl2.uniq hl
  obtain rfl : h2 = h1 := W.uniq W2
  rw [tw]
  try simp -dsimp only [rR_]
  refine ⟨s2, ?_⟩
  rw [eqt_shR s2]
  try simp -dsimp only [rR_]
  refine ⟨_, _, rfl, rfl, by omega, by omega, pow9000 (by omega) (by omega), fun a m1 haa hab hm1 => ?_⟩
  try simp -dsimp only [rR_]
  have r0 := Rm.r0
  have r1 := Rm.r1
  refine ⟨w, r, a, 5, m1, rfl, rfl, wo, by omega, by omega, r0, r1, by omega, by omega, by decide, pow9000 (by decide) (by decide), by omega, fun k m2 st ch lk rk kb hm2 => ?_⟩
  have wk : WK w k := ⟨wo, st, by omega⟩
  try simp -dsimp only [rR_]
  refine ⟨w, r, k, l2, h2, rfl, rfl, Rm, by omega, hl2, W2, wk, rk, ch, by omega, ⟨by have := kb.k; omega, fun s hs => by have := kb.s s hs; omega⟩, fun M q1 q2 q3 => ?_⟩
  try simp -dsimp only [rR_]
  refine ⟨w, k, M, rfl, wk, q2, ?_⟩
  have pe : plainW w k = plainW w M := plainW_iff.mpr ⟨rk.trans q1.symm, q3.symm⟩
  rw [decide_eq_true pe]
  try simp -dsimp only [rR_]
  exact hR m2 (by omega)
theorem run_ra {w : Web} {r o n0 : Int} {n : Nat} {R : Fl → Prop} (Rm : RmO w r) (Ro : RmO w o) (hr : w.rooms ≤ 5) (ht : w.ties.length ≤ 10) (hn : n + 2000 ≤ 2 ^ 40)
    (hR : ∀ m, m ≤ n + 1500 → R (.rt (.d (.bool true)) (some m))) :
    w_ra ⟨envQ w r o n0 none none none none, some n⟩ R (fun _ _ => False) := by
  have wo := Rm.wo
  generalize hW : w_rb = W
  simp only [w_ra, hW]
  simp -dsimp only [rR_, envQ, Option.map_none]
  refine ⟨w, r, rfl, wo, Rm.tl, Rm.rl, Rm.r0, Rm.r1, fun h H hc hb => ?_⟩
  have V : Wy w r (outs w) h := ⟨H, hc, hb, from_outs w⟩
  have o0 := Ro.r0
  have o1 := Ro.r1
  have fin : ∀ x3 : Px, W ⟨envQ w r o n0 (some (.dic (.k (eHm h)))) (some x3) none none, some n⟩ R (fun _ _ => False) := fun x3 => by
    rw [← hW]
    exact run_rb (x3 := some x3) (x4 := none) (x5 := none) Rm hr ht V hn hR
  simp only [envQ, Option.map_some, Option.map_none] at fin
  try simp -dsimp only [rR_]
  by_cases hk : o ∈ h.map (·.1)
  · obtain ⟨_, lk⟩ := eHm_look2 hk
    rw [lk]
    have Vo := V.way hk
    have vo := Vo.ln
    simp -dsimp only [rR_, Option.isSome_some]
    have bs := bar_sho Rm hr V hk
    have sw := sho_word.1
    have s1 : Sho 40 1000000 (.tuple [.str "told", eK (barW r (csOf h o))]) := by
      refine (Sho.tup (e := 3) (b := 56000) (n := 2) (fun x hx => ?_) (by simp)).mono (by decide) (by decide)
      simp only [List.mem_cons, List.not_mem_nil, or_false] at hx
      rcases hx with rfl | rfl
      · exact sw.mono (Nat.le_refl _) (by decide)
      · exact bs
    refine ⟨_, rfl, r, csOf h o, rfl, by omega, ?_⟩
    simp -dsimp only [rR_, eCallX]
    refine ⟨by decide, w, r, o, rfl, rfl, Rm, fun h2 W2 => ⟨fun ho => ?_, fun ho => ?_⟩⟩
    · obtain rfl : h2 = h := V.uniq W2
      try simp -dsimp only [rR_]
      refine ⟨s1, s1, ?_⟩
      rw [eqt_shR s1]
      try simp -dsimp only [rR_]
      exact fin _
    · obtain rfl : h2 = h := V.uniq W2
      exact absurd hk ho
  · rw [eHm_none hk]
    have s1 := sho_rm o (by omega)
    simp -dsimp only [rR_, Option.isSome_none, eCallX]
    refine ⟨by decide, w, r, o, rfl, rfl, Rm, fun h2 W2 => ⟨fun ho => ?_, fun ho => ?_⟩⟩
    · obtain rfl : h2 = h := V.uniq W2
      exact absurd ho hk
    · refine ⟨rfl, hit rfl rfl ?_⟩
      try simp -dsimp only [rR_]
      refine ⟨s1, s1, ?_⟩
      rw [eqt_shR s1]
      try simp -dsimp only [rR_]
      exact fin _
theorem spec_law_right (rs : List Rv) (g : Option Nat) (Q : Rv → Option Nat → Prop) (h : C_law_right rs g Q) : w_law_right (startC 9 rs g) (endP Q) fun _ _ => False := by
  obtain ⟨n, rfl, rfl, hn, hQ⟩ := h
  generalize hW : w_ra = W
  simp only [w_law_right, hW]
  simp -dsimp only [startC, List.map_cons, List.map_nil, List.cons_append, List.nil_append, List.length_cons, List.length_nil, Nat.reduceSub, Nat.reduceAdd, List.replicate_succ, List.replicate_zero]
  try simp -dsimp only [rR_]
  refine ⟨_, _, rfl, rfl, by omega, by omega, pow9000 (by omega) (by omega), fun a m1 haa hab hm1 => ?_⟩
  try simp -dsimp only [rR_]
  refine ⟨_, _, rfl, rfl, by omega, by omega, pow9000 (by omega) (by omega), fun b m2 hba hbb hm2 => ?_⟩
  try simp -dsimp only [rR_]
  refine ⟨by decide, _, m2, rfl, rfl, by omega, by simp, by simp, fun x hx m3 hm3 => ?_⟩
  obtain ⟨gr, rfl, g1, g9⟩ : ∃ r : Int, x = .int r ∧ 1 ≤ r ∧ r ≤ 9 := by
    simp only [List.mem_cons, List.not_mem_nil, or_false] at hx
    rcases hx with rfl | rfl <;> exact ⟨_, rfl, by decide, by decide⟩
  try simp -dsimp only [rR_]
  refine ⟨_, _, gr, m3, rfl, rfl, by omega, by omega, by omega, by omega, by omega, by omega, by omega, fun w m4 wo0 wr wt hm4 => ?_⟩
  have wo : WebOk w 1000 := wo0.up (by omega)
  try simp -dsimp only [rR_]
  refine ⟨_, _, rfl, rfl, by omega, by omega, pow9000 (by omega) (by omega), fun c m5 hca hcb hm5 => ?_⟩
  try simp -dsimp only [rR_]
  refine ⟨_, _, rfl, rfl, by omega, by omega, pow9000 (by omega) (by omega), fun d m6 hda hdb hm6 => ?_⟩
  try simp -dsimp only [rR_]
  refine ⟨by decide, ?_⟩
  rw [← hW]
  exact run_ra (r := c) (o := d) (n0 := 1 + a) (n := m6) ⟨wo, by omega, by omega, by omega, by omega⟩ ⟨wo, by omega, by omega, by omega, by omega⟩ (by omega) (by omega) (by omega) fun m hm => hQ m (by omega)
end K
set_option Elab.async false
set_option maxRecDepth 100000
set_option linter.all false
set_option autoImplicit false
set_option maxHeartbeats 4000000
namespace K
open PySem L2 Dl
variable [TabF]
abbrev Claw : Cn := fun rs g Q => ∃ (ns : List Int), rs = [.scr ns] ∧ g = none ∧ ns.length ≤ 100 ∧ ∀ g', Q (.d (.bool true)) g'
def wlaw : WS :=
  (sSeq (sFor (iRg1 (aCons (eOp addD (eC (.int 1)) (eCB min2C (aCons (eCB lenC (aCons (eName 0) aNil)) (aCons (eC (.int 1)) aNil)))) aNil)) (gN 1)
  (sSeq (sSetG 2 C_law_begun (aCons (eName 0) (aCons (eName 1) aNil)))
  (sIf (wOr (wNot (wTru (eCallG C_law_right (aCons (eName 2) aNil)))) (wNot (wTru (eCallG C_law_right (aCons (eName 2) aNil))))) (sRet (eC (.bool false))) sNil)))
  (sRet (eC (.bool true))))
theorem lenlaw (rs : List Rv) (g : Option Nat) (Q : Rv → Option Nat → Prop) (h : Claw rs g Q) : rs.length = 1 := by
  obtain ⟨a, rfl, _⟩ := h
  rfl
theorem speclaw (rs : List Rv) (g : Option Nat) (Q : Rv → Option Nat → Prop) (h : Claw rs g Q) : wlaw (startC 3 rs g) (endP Q) fun _ _ => False := by
  obtain ⟨ns, rfl, rfl, hl, hQ⟩ := h
  simp only [wlaw]
  simp -dsimp only [startC, List.map_cons, List.map_nil, List.cons_append, List.nil_append, List.length_cons, List.length_nil, Nat.reduceSub, Nat.reduceAdd, List.replicate_succ, List.replicate_zero]
  try simp -dsimp only [rR_]
  have hlo : 0 ≤ (1 + if 1 < (ns.length : Int) then (1 : Int) else (ns.length : Int)) ∧ (1 + if 1 < (ns.length : Int) then (1 : Int) else (ns.length : Int)) ≤ 2 := by split <;> omega
  generalize (1 + if 1 < (ns.length : Int) then (1 : Int) else (ns.length : Int)) = tn at hlo ⊢
  refine ⟨by unfold smI; omega, ?_⟩
  simp only [forH]
  refine forW_ind _ (fun i c => ∃ (x1 : Option Px) (y2 : Option Rv) (g : Option Nat), c = ⟨[some (.scr ns), x1.map .d, y2], g⟩) (fun i x c hx hI R hR => ?_) (fun c hI => ?_) _ ⟨none, none, none, rfl⟩
  · obtain ⟨x1, y2, g, rfl⟩ := hI
    obtain ⟨hi, rfl⟩ := rng_at hx
    simp -dsimp only [rR_, Int.zero_add]
    refine ⟨fun j hj => ?_, ns, (i : Int), rfl, rfl, by omega, by omega, hl, rfl, 0, rfl, ?_⟩
    · match j with
      | 0 => simp
      | 1 => simp
      | 2 => exact absurd rfl hj
      | n + 3 => simp
    try simp -dsimp only [rR_]
    refine ⟨0, rfl, rfl, by omega, fun m1 hm1 => ?_⟩
    try simp -dsimp only [rR_]
    refine ⟨m1, rfl, rfl, by omega, fun m2 hm2 => ?_⟩
    try simp -dsimp only [rR_]
    exact hR _ ⟨some _, _, _, rfl⟩
  · obtain ⟨x1, y2, g, rfl⟩ := hI
    try simp -dsimp only [rR_]
    exact hQ _
end K
set_option Elab.async false
set_option maxRecDepth 100000
set_option linter.all false
set_option autoImplicit false
set_option maxHeartbeats 4000000
namespace K
open PySem L2 Dl
variable [TabF]
theorem def_fn {P : Program} {w : World} {K : PySem.W.Frag} {mg : Str → Option Value} {base : Heap} {x qual : Str} {st : Stmt} {f : Addr} {fd : FuncData} {N ps : List Str} {k : Nat} {Pr : Cn} (nog : Bool) (F : FunD K x qual (defArgs st) (defBody st) (defScope st) [] [] f fd) (S : FnScope N ps (defScope st)) (hmg : mg x = some (.ref f)) (bi : Binds K fd ps [])
    (fw : WS) (len : ∀ rs g Q, Pr rs g Q → rs.length = ps.length) (hn : nog = true → ∀ rs g Q, Pr rs g Q → g = none) (spec : ∀ rs g Q, Pr rs g Q → fw (startC N.length rs g) (endP Q) fun _ _ => False)
    (hbody : ∀ (cdv : Value) (A : Around) (outer : List Env) (s : Shared) (H : Hp) (E : XK) (Δ : Dx), RoomG k (A.deeper (PyProof.Rows.envOfC qual (defScope st) s.heap.objs.size f cdv)) → Δ.K = K → (nog = true → Δ.a0 = none) →
      PSs (cxOf CX0 P w K mg base N qual (defScope st) f cdv A outer s H E).nox (defBody st) (tS Δ fw)) : FnG P w K mg base CX0 (k + 1) f fd ps (spD K Pr) := by
  refine fnG_of F S (fun vs H Q E h => ?_) (fun cdv A outer s H vs Q E hr h => ?_)
  · obtain ⟨am, G, rs, g, q, _, _, _, h3, h4, _⟩ := h
    rw [← h3.length]
    exact len rs g q h4
  · obtain ⟨am, G, rs, g, q, h1, ht, h2, h3, h4, h5⟩ := h
    refine ⟨_, PSs.nox (hbody cdv A outer s H E (dx0 K am g G H) hr rfl (fun z => by rw [hn z rs g q h4]; rfl)), am, G, _, _, _, start_ok h1 ht h2 h3, spec rs g q h4, ⟨fun c am' F' σ' H' p l o => ?_, fun _ _ _ _ _ z => z.elim, fun _ _ _ _ _ z => z.elim, fun r g' am' F' H' v p l fn s => ?_⟩, fun _ _ _ _ _ z => z.elim⟩
    · exact h5 _ _ am' F' _ H' p l o.fin .non
    · exact h5 r g' am' F' v H' p l fn s
theorem nog_law_begun (rs : List Rv) (g : Option Nat) (Q : Rv → Option Nat → Prop) (h : C_law_begun rs g Q) : g = none := by
  obtain ⟨_, _, _, e, _⟩ := h
  exact e
theorem noglaw (rs : List Rv) (g : Option Nat) (Q : Rv → Option Nat → Prop) (h : Claw rs g Q) : g = none := by
  obtain ⟨_, _, e, _⟩ := h
  exact e
section
variable {P : Program} {w : World} {K : PySem.W.Frag} {mg : Str → Option Value} {base : Heap}
theorem ini_NotInOne {f C : Addr} {fd : FuncData} (F : FunD K "__init__" "NotInOne.__init__" (defArgs i_NotInOne) (defBody i_NotInOne) (defScope i_NotInOne) [] [] f fd) (na : PySem.W.findIn K (.ref C) "room" = some none) (T : OexC K C) : FnOk P w K mg base CX0 1 f fd ["self", "room"] (spIni C "room") :=
  ini_ok (N := ["self", "room"]) F ⟨rfl, rfl, rfl, by decide +kernel, rfl, by decide +kernel, by decide +kernel⟩ rfl T na (fun cdv A outer s H E => pss_one (ps_ost (pv 0) (pv 1)))
abbrev n_law_outcome : List Str := ["call", "found", "error"]
abbrev p_law_outcome : List Str := ["call"]
theorem sc_law_outcome : FnScope n_law_outcome p_law_outcome (defScope s_law_outcome) := ⟨rfl, rfl, rfl, by decide +kernel, rfl, by decide +kernel, by decide +kernel⟩
theorem h_law_outcome {X : Cx} {g : Addr} {q : Str} {X_NotInOne : Addr} (x_NotInOne : XKit X.prog X.w X.K X.mg X.base "NotInOne" "room" X_NotInOne) (cdg : Value) : GivesG X n_law_outcome "_law_outcome" "call" q (defScope s_law_outcome) g cdg (defBody s_law_outcome) (TTh X.K true [(X_NotInOne, ⟨"NotInOne", 2, .tup [.st "room", .fl "room"]⟩)]) := by
  have S := sc_law_outcome
  exact heard_tup (i := 1) (hs := [(X_NotInOne, ⟨"NotInOne", 2, .tup [.st "room", .fl "room"]⟩)]) (fun _ => rfl) S.nd rfl (Or.inl rfl) (by
    intro h hh
    simp only [List.mem_cons, List.not_mem_nil, or_false] at hh
    rcases hh with rfl <;> exact ⟨by show 2 < 3; decide, by show 2 ≠ 1; decide⟩) (by decide) (fun s H => (.cons rfl rfl (names_of x_NotInOne (by rfl)) (fun a o cls d pn z fs => claTT_ok S.nd rfl (Or.inl rfl) (.inr rfl) a o cls d pn (pa_cons pe_str (pa_cons (pe_xf x_NotInOne.c.f x_NotInOne.na z fs (pe_var rfl (Or.inl rfl))) pa_nil))) .nil)) (by decide) (by decide) (fun _ _ => rfl)
abbrev n_law_begun : List Str := ["script", "k", "cells", "cell", "great", "begun"]
abbrev p_law_begun : List Str := ["script", "k"]
theorem sc_law_begun : FnScope n_law_begun p_law_begun (defScope s_law_begun) := ⟨rfl, rfl, rfl, by decide +kernel, rfl, by decide +kernel, by decide +kernel⟩
theorem k_law_begun {f : Addr} {fd : FuncData} (hKK : K = TabF.K) (hCN : ∀ a, TabF.C a = none) (F : FunD K "_law_begun" "_law_begun" (defArgs s_law_begun) (defBody s_law_begun) (defScope s_law_begun) [] [] f fd) (hm : mg "_law_begun" = some (.ref f)) (b_int : mg "int" = none) (b_len : mg "len" = none) : CalD P w K mg base 1 "_law_begun" C_law_begun := by
  have S := sc_law_begun
  refine def_ok true F S hm (F.bindsN fun _ _ _ _ _ _ us hl => match us, hl with | [_, _], _ => rfl) w_law_begun len_law_begun (fun _ => nog_law_begun) spec_law_begun (fun cdv A outer s H E Δ hr hK ha0 => ?_)
  have hu := hu_of hr.toRoom
  exact (dss_cons (ds_set 2 S.nd (de_op (do_add hK) (de_slS 0 hK (by rfl) (by first | exact Or.inl rfl | exact Or.inr (Or.inl rfl) | exact Or.inr (Or.inr rfl)) (by decide) (by decide) (do_some (de_name 1)) do_none) (de_slS 0 hK (by rfl) (by first | exact Or.inl rfl | exact Or.inr (Or.inl rfl) | exact Or.inr (Or.inr rfl)) (by decide) (by decide) do_none (do_some (de_name 1)))))
  (dss_cons (ds_setLc (own := [("cell", 3)]) 4 rfl rfl rfl (sw_true rfl rfl rfl (by decide +kernel)) S.nd (di_scr 0 hK (by rfl) (by first | exact Or.inl rfl | exact Or.inr (Or.inl rfl) | exact Or.inr (Or.inr rfl)) (by decide) (by decide)) (blkOk_by (own := [("cell", 3)]) (N := n_law_begun) (sc := defScope s_law_begun) (by decide +kernel)) (fun _ _ _ _ _ Δ _ => (dg_name 3 S.nd)) (fun _ _ _ _ _ Δ e1 => (pts_one (dt_cmpNL 3 sc_ge (de_op do_pow de_int de_int) (nomark _)))) (fun _ _ _ _ _ Δ e2 => (de_name 3)))
  (dss_cons (ds_set 5 S.nd (de_op (do_add hK) de_int (de_op do_mul' de_int (de_name 1))))
  (dss_cons (ds_for PassesOwn.never rfl (di_l (de_name 2)) (dg_name 3 S.nd)
  (dss_one (ds_set 5 S.nd (de_op do_mod' (de_ct cl_int (by rfl) b_int (by decide +kernel) (da_cons (de_op (do_add hK) (de_op do_mul' (de_name 5) de_int) (de_name 3)) da_nil)) de_int))))
  (dss_one (ds_retG (ha0 rfl) (fun Δ e3 => (de_if (dt_cmpNL 1 sc_lt (de_lenN 4 rfl (by rfl) b_len (by decide +kernel)) (nomark _)) (de_ixN 4 (de_name 1) (fun _ _ => rfl)) de_int)) (fun Δ e4 => (de_name 5)) (fun Δ e5 => (de_addN 2 (e5.trans hK) (de_lst (da_cons (de_op (do_add (e5.trans hK)) (de_op do_mul' de_int (de_name 1)) de_int) da_nil)))) (fun Δ e6 => de_int)))))))
abbrev n_law_draw : List Str := ["m", "below", "found", "spot", "cells", "added", "cell", "blend"]
abbrev p_law_draw : List Str := ["m", "below"]
theorem sc_law_draw : FnScope n_law_draw p_law_draw (defScope s_law_draw) := ⟨rfl, rfl, rfl, by decide +kernel, rfl, by decide +kernel, by decide +kernel⟩
theorem k_law_draw {f : Addr} {fd : FuncData} (hKK : K = TabF.K) (hCN : ∀ a, TabF.C a = none) (F : FunD K "_law_draw" "_law_draw" (defArgs s_law_draw) (defBody s_law_draw) (defScope s_law_draw) [] [] f fd) (hm : mg "_law_draw" = some (.ref f)) (b_int : mg "int" = none) (b_len : mg "len" = none) : CalD P w K mg base 1 "_law_draw" C_law_draw := by
  have S := sc_law_draw
  refine def_ok false F S hm (F.bindsN fun _ _ _ _ _ _ us hl => match us, hl with | [_, _], _ => rfl) w_law_draw len_law_draw (fun z => nomatch z) spec_law_draw (fun cdv A outer s H E Δ hr hK ha0 => ?_)
  have hu := hu_of hr.toRoom
  exact (dss_cons (ds_if (dt_cmp sc_gt (de_gl 0 hu (by rfl) (by first | exact Or.inl rfl | exact Or.inr (Or.inl rfl) | exact Or.inr (Or.inr rfl)) (by decide) (by decide)) de_int (nomark _)) (dss_cons (ds_set 2 S.nd (de_op do_mod' (de_ct cl_int (by rfl) b_int (by decide +kernel) (da_cons (de_gl 0 hu (by rfl) (by first | exact Or.inl rfl | exact Or.inr (Or.inl rfl) | exact Or.inr (Or.inr rfl)) (by decide) (by decide)) da_nil)) (de_name 1)))
  (dss_cons (ds_gl 0 hu (by rfl) (by first | exact Or.inl rfl | exact Or.inr (Or.inl rfl) | exact Or.inr (Or.inr rfl)) (by decide) (by decide) (de_op do_fdiv' (de_gl 0 hu (by rfl) (by first | exact Or.inl rfl | exact Or.inr (Or.inl rfl) | exact Or.inr (Or.inr rfl)) (by decide) (by decide)) (de_name 1)) (by rfl))
  (dss_one (ds_ret (de_name 2))))) dss_nil)
  (dss_cons (ds_set 3 S.nd (de_gp 0 hu (by rfl) (by first | exact Or.inl rfl | exact Or.inr (Or.inl rfl) | exact Or.inr (Or.inr rfl)) (by decide) (by decide)))
  (dss_cons (ds_gp 0 hu (by rfl) (by first | exact Or.inl rfl | exact Or.inr (Or.inl rfl) | exact Or.inr (Or.inr rfl)) (by decide) (by decide) (de_addN 3 hK de_int) (by rfl))
  (dss_cons (ds_par2 4 5 rfl S.nd (de_gc 0 hu (by rfl) (by first | exact Or.inl rfl | exact Or.inr (Or.inl rfl) | exact Or.inr (Or.inr rfl)) (by decide) (by decide)) (fun Δ e1 => (de_op (do_add (e1.trans hK)) (de_gs 0 hu (by rfl) (by first | exact Or.inl rfl | exact Or.inr (Or.inl rfl) | exact Or.inr (Or.inr rfl)) (by decide) (by decide)) (de_op do_mul' (de_op do_mul' de_int (de_name 3)) (de_name 3)))) (by rfl))
  (dss_cons (ds_set 6 S.nd (de_ixN 4 (de_op do_mod' (de_ct cl_int (by rfl) b_int (by decide +kernel) (da_cons (de_name 3) da_nil)) (de_lenN 4 rfl (by rfl) b_len (by decide +kernel))) (fun _ _ => rfl)))
  (dss_cons (ds_set 7 S.nd (de_op do_mod' (de_ct cl_int (by rfl) b_int (by decide +kernel) (da_cons (de_op (do_add hK) (de_op do_mul' (de_name 6) (de_op (do_add hK) (de_op do_mul' de_int (de_name 3)) de_int)) (de_name 5)) da_nil)) de_int))
  (dss_cons (ds_set 7 S.nd (de_op do_mod' (de_ct cl_int (by rfl) b_int (by decide +kernel) (da_cons (de_op (do_add hK) (de_op (do_add hK) (de_op do_mul' (de_name 7) (de_name 7)) (de_op do_mul' de_int (de_name 3))) (de_gs 0 hu (by rfl) (by first | exact Or.inl rfl | exact Or.inr (Or.inl rfl) | exact Or.inr (Or.inr rfl)) (by decide) (by decide))) da_nil)) de_int))
  (dss_one (ds_ret (de_op do_mod' (de_op do_fdiv' (de_op do_mod' (de_ct cl_int (by rfl) b_int (by decide +kernel) (da_cons (de_op (do_add hK) (de_op do_mul' (de_name 7) de_int) (de_name 3)) da_nil)) de_int) de_int) (de_name 1)))))))))))
abbrev n_law_of : List Str := ["m", "some"]
abbrev p_law_of : List Str := ["m", "some"]
theorem sc_law_of : FnScope n_law_of p_law_of (defScope s_law_of) := ⟨rfl, rfl, rfl, by decide +kernel, rfl, by decide +kernel, by decide +kernel⟩
theorem k_law_of {f : Addr} {fd : FuncData} (hKK : K = TabF.K) (hCN : ∀ a, TabF.C a = none) (F : FunD K "_law_of" "_law_of" (defArgs s_law_of) (defBody s_law_of) (defScope s_law_of) [] [] f fd) (hm : mg "_law_of" = some (.ref f)) (b_len : mg "len" = none) (c_law_draw : CalD P w K mg base 1 "_law_draw" C_law_draw) : CalD P w K mg base 2 "_law_of" C_law_of := by
  have S := sc_law_of
  refine def_ok false F S hm (F.bindsN fun _ _ _ _ _ _ us hl => match us, hl with | [_, _], _ => rfl) w_law_of len_law_of (fun z => nomatch z) spec_law_of (fun cdv A outer s H E Δ hr hK ha0 => ?_)
  have hu := hu_of hr.toRoom
  exact (dss_one (ds_ret (de_ixN 1 (de_callG c_law_draw hK (hr.mono (by decide)) (by rfl) (da_cons (de_name 0) (da_cons (de_lenN 1 rfl (by rfl) b_len (by decide +kernel)) da_nil))) (fun _ _ => rfl))))
abbrev n_law_web : List Str := ["m", "rooms", "ties", "greatest", "found", "k", "v", "w", "p", "q", "end"]
abbrev p_law_web : List Str := ["m", "rooms", "ties", "greatest"]
theorem sc_law_web : FnScope n_law_web p_law_web (defScope s_law_web) := ⟨rfl, rfl, rfl, by decide +kernel, rfl, by decide +kernel, by decide +kernel⟩
theorem k_law_web {f : Addr} {fd : FuncData} (hKK : K = TabF.K) (hCN : ∀ a, TabF.C a = none) (F : FunD K "_law_web" "_law_web" (defArgs s_law_web) (defBody s_law_web) (defScope s_law_web) [] [] f fd) (hm : mg "_law_web" = some (.ref f)) (b_range : mg "range" = none) (b_tuple : mg "tuple" = none) (c_law_draw : CalD P w K mg base 1 "_law_draw" C_law_draw) (c_law_of : CalD P w K mg base 2 "_law_of" C_law_of) : CalD P w K mg base 3 "_law_web" C_law_web := by
  have S := sc_law_web
  refine def_ok false F S hm (F.bindsN fun _ _ _ _ _ _ us hl => match us, hl with | [_, _, _, _], _ => rfl) w_law_web len_law_web (fun z => nomatch z) spec_law_web (fun cdv A outer s H E Δ hr hK ha0 => ?_)
  have hu := hu_of hr.toRoom
  exact (dss_cons (ds_set 4 S.nd (de_lst da_nil))
  (dss_cons (ds_for PassesOwn.never rfl (di_r1 (by rfl) b_range (da_cons (de_name 2) da_nil)) (dg_name 5 S.nd)
  (dss_cons (ds_set 6 S.nd (de_if (dt_cmpNR 1 sc_lt (de_addN 5 hK de_int) (nomark _)) (de_callG c_law_draw hK (hr.mono (by decide)) (by rfl) (da_cons (de_name 0) (da_cons (de_addN 5 hK de_int) da_nil))) (de_callG c_law_draw hK (hr.mono (by decide)) (by rfl) (da_cons (de_name 0) (da_cons (de_name 1) da_nil)))))
  (dss_cons (ds_set 7 S.nd (de_if (dt_cmpNR 1 sc_lt (de_addN 5 hK de_int) (nomark _)) (de_addN 5 hK de_int) (de_callG c_law_draw hK (hr.mono (by decide)) (by rfl) (da_cons (de_name 0) (da_cons (de_name 1) da_nil)))))
  (dss_cons (ds_asg (de_lc (own := [("end", 10)]) rfl S.nd (di_r1 (by rfl) b_range (da_cons de_int da_nil)) (blkOk_by (own := [("end", 10)]) (N := n_law_web) (sc := defScope s_law_web) (by decide +kernel)) (fun _ _ _ _ _ Δ _ => (dg_name 10 S.nd)) (fun _ _ _ _ _ Δ e0 => (dts_nil)) (fun _ _ _ _ _ Δ e1 => (de_op do_mul' (de_op (do_add (e1.trans hK)) de_int (de_callG c_law_draw (e1.trans hK) (hr.mono (by decide)) (by rfl) (da_cons (de_name 0) (da_cons (de_name 3) da_nil)))) (de_callG c_law_of (e1.trans hK) (hr.mono (by decide)) (by rfl) (da_cons (de_name 0) (da_cons (de_lst (da_cons de_int (da_cons de_int (da_cons de_int (da_cons (de_un do_neg de_int) da_nil))))) da_nil)))))) (dg_lst (n := 2) rfl (dgs_cons (dg_name 8 S.nd) (dgs_cons (dg_name 9 S.nd) dgs_nil))))
  (dss_one (ds_expr (de_app 4 (de_if (dt_cmp (sc_eq hr.units) (de_callG c_law_draw hK (hr.mono (by decide)) (by rfl) (da_cons (de_name 0) (da_cons de_int da_nil))) de_int (nomark _)) (de_tup (da_cons (de_name 6) (da_cons (de_name 7) (da_cons (de_name 8) (da_cons (de_name 9) da_nil))))) (de_tup (da_cons (de_name 7) (da_cons (de_name 6) (da_cons (de_name 9) (da_cons (de_name 8) da_nil)))))))))))))
  (dss_one (ds_ret (de_tup (da_cons (de_name 1) (da_cons (de_ct (cl_tup hK) (by rfl) b_tuple (by decide +kernel) (da_cons (de_name 4) da_nil)) da_nil)))))))
abbrev n_law_ends : List Str := ["web", "tie", "side", "v", "w", "p", "q"]
abbrev p_law_ends : List Str := ["web", "tie", "side"]
theorem sc_law_ends : FnScope n_law_ends p_law_ends (defScope s_law_ends) := ⟨rfl, rfl, rfl, by decide +kernel, rfl, by decide +kernel, by decide +kernel⟩
theorem k_law_ends {f : Addr} {fd : FuncData} (hKK : K = TabF.K) (hCN : ∀ a, TabF.C a = none) (F : FunD K "_law_ends" "_law_ends" (defArgs s_law_ends) (defBody s_law_ends) (defScope s_law_ends) [] [] f fd) (hm : mg "_law_ends" = some (.ref f)) : CalD P w K mg base 1 "_law_ends" C_law_ends := by
  have S := sc_law_ends
  refine def_ok false F S hm (F.bindsN fun _ _ _ _ _ _ us hl => match us, hl with | [_, _, _], _ => rfl) w_law_ends len_law_ends (fun z => nomatch z) spec_law_ends (fun cdv A outer s H E Δ hr hK ha0 => ?_)
  have hu := hu_of hr.toRoom
  exact (dss_cons (ds_asg (de_ix (de_ixN 0 de_int (fun _ _ => rfl)) (de_name 1) (fun _ _ => rfl)) (dg_tup (n := 4) rfl (dgs_cons (dg_name 3 S.nd) (dgs_cons (dg_name 4 S.nd) (dgs_cons (dg_name 5 S.nd) (dgs_cons (dg_name 6 S.nd) dgs_nil))))))
  (dss_one (ds_ret (de_if (dt_cmpNL 2 (sc_eq hr.units) de_int (nomark _)) (de_tup (da_cons (de_name 3) (da_cons (de_name 4) (da_cons (de_name 5) (da_cons (de_name 6) da_nil))))) (de_tup (da_cons (de_name 4) (da_cons (de_name 3) (da_cons (de_name 6) (da_cons (de_name 5) da_nil)))))))))
abbrev n_law_out : List Str := ["web", "room", "found", "tie", "side"]
abbrev p_law_out : List Str := ["web", "room"]
theorem sc_law_out : FnScope n_law_out p_law_out (defScope s_law_out) := ⟨rfl, rfl, rfl, by decide +kernel, rfl, by decide +kernel, by decide +kernel⟩
theorem k_law_out {f : Addr} {fd : FuncData} (hKK : K = TabF.K) (hCN : ∀ a, TabF.C a = none) (F : FunD K "_law_out" "_law_out" (defArgs s_law_out) (defBody s_law_out) (defScope s_law_out) [] [] f fd) (hm : mg "_law_out" = some (.ref f)) (b_len : mg "len" = none) (b_range : mg "range" = none) (c_law_ends : CalD P w K mg base 1 "_law_ends" C_law_ends) : CalD P w K mg base 2 "_law_out" C_law_out := by
  have S := sc_law_out
  refine def_ok false F S hm (F.bindsN fun _ _ _ _ _ _ us hl => match us, hl with | [_, _], _ => rfl) w_law_out len_law_out (fun z => nomatch z) spec_law_out (fun cdv A outer s H E Δ hr hK ha0 => ?_)
  have hu := hu_of hr.toRoom
  exact (dss_cons (ds_set 2 S.nd (de_lst da_nil))
  (dss_cons (ds_for PassesOwn.never rfl (di_r1 (by rfl) b_range (da_cons (de_cb (cl_len hK) (by rfl) b_len (by decide +kernel) (da_cons (de_ixN 0 de_int (fun _ _ => rfl)) da_nil)) da_nil)) (dg_name 3 S.nd)
  (dss_one (ds_set 2 S.nd (de_addN 2 hK (de_lc (own := [("side", 4)]) rfl S.nd (di_t (de_tup (da_cons de_int (da_cons (de_un do_neg de_int) da_nil)))) (blkOk_by (own := [("side", 4)]) (N := n_law_out) (sc := defScope s_law_out) (by decide +kernel)) (fun _ _ _ _ _ Δ _ => (dg_name 4 S.nd)) (fun _ _ _ _ _ Δ e1 => (pts_one (dt_cmpNR 1 (sc_eq hr.units) (de_ix (de_callP c_law_ends (e1.trans hK) (hr.mono (by decide)) (by rfl) (da_cons (de_name 0) (da_cons (de_name 3) (da_cons (de_name 4) da_nil)))) de_int (fun _ _ => rfl)) (nomark _)))) (fun _ _ _ _ _ Δ e2 => (de_tup (da_cons (de_name 3) (da_cons (de_name 4) da_nil)))))))))
  (dss_one (ds_ret (de_name 2)))))
abbrev n_law_home : List Str := ["web", "room", "found", "pending", "here", "tie", "side", "there"]
abbrev p_law_home : List Str := ["web", "room"]
theorem sc_law_home : FnScope n_law_home p_law_home (defScope s_law_home) := ⟨rfl, rfl, rfl, by decide +kernel, rfl, by decide +kernel, by decide +kernel⟩
theorem k_law_home {f : Addr} {fd : FuncData} (hKK : K = TabF.K) (hCN : ∀ a, TabF.C a = none) (F : FunD K "_law_home" "_law_home" (defArgs s_law_home) (defBody s_law_home) (defScope s_law_home) [] [] f fd) (hm : mg "_law_home" = some (.ref f)) (c_law_ends : CalD P w K mg base 1 "_law_ends" C_law_ends) (c_law_out : CalD P w K mg base 2 "_law_out" C_law_out) : CalD P w K mg base 3 "_law_home" C_law_home := by
  have S := sc_law_home
  refine def_ok false F S hm (F.bindsN fun _ _ _ _ _ _ us hl => match us, hl with | [_, _], _ => rfl) w_law_home len_law_home (fun z => nomatch z) spec_law_home (fun cdv A outer s H E Δ hr hK ha0 => ?_)
  have hu := hu_of hr.toRoom
  exact (dss_cons (ds_par2 2 3 rfl S.nd (de_disp1 (fun Δ e1 => (de_name 1)) (fun Δ e2 => (de_lst da_nil))) (fun Δ e3 => (de_lst (da_cons (de_name 1) da_nil))) (by rfl))
  (dss_cons (ds_wh PassesOwn.never (dt_cmpNL 3 (sc_ne hr.units) (de_lst da_nil) (nomark _))
  (dss_cons (ds_set 4 S.nd (de_pop0 3))
  (dss_one (ds_for PassesOwn.never rfl (di_l (de_callP c_law_out hK (hr.mono (by decide)) (by rfl) (da_cons (de_name 0) (da_cons (de_name 4) da_nil)))) (dg_tup (n := 2) rfl (dgs_cons (dg_name 5 S.nd) (dgs_cons (dg_name 6 S.nd) dgs_nil)))
  (dss_cons (ds_set 7 S.nd (de_ix (de_callP c_law_ends hK (hr.mono (by decide)) (by rfl) (da_cons (de_name 0) (da_cons (de_name 5) (da_cons (de_name 6) da_nil)))) de_int (fun _ _ => rfl)))
  (dss_one (ds_if (dt_dnin 2 hr.units (de_name 7)) (dss_cons (ds_dput 2 hr.units (de_op (do_add hK) (de_dix (hs := fun _ _ => rfl) 2 hr.units (de_name 4)) (de_lst (da_cons (de_tup (da_cons (de_name 5) (da_cons (de_name 6) da_nil))) da_nil))) (de_name 7))
  (dss_one (ds_expr (de_app 3 (de_name 7))))) dss_nil)))))))
  (dss_one (ds_retD 2))))
abbrev nways_out : List Str := ["web", "room", "ways", "number", "tie"]
abbrev pways_out : List Str := ["web", "room"]
theorem scways_out : FnScope nways_out pways_out (defScope sways_out) := ⟨rfl, rfl, rfl, by decide +kernel, rfl, by decide +kernel, by decide +kernel⟩
theorem kways_out {f : Addr} {fd : FuncData} (hKK : K = TabF.K) (hCN : ∀ a, TabF.C a = none) (F : FunD K "ways_out" "ways_out" (defArgs sways_out) (defBody sways_out) (defScope sways_out) [] [] f fd) (hm : mg "ways_out" = some (.ref f)) (b_enumerate : mg "enumerate" = none) (b_tuple : mg "tuple" = none) : CalD P w K mg base 1 "ways_out" Cways_out := by
  have S := scways_out
  refine def_ok false F S hm (F.bindsN fun _ _ _ _ _ _ us hl => match us, hl with | [_, _], _ => rfl) wways_out lenways_out (fun z => nomatch z) specways_out (fun cdv A outer s H E Δ hr hK ha0 => ?_)
  have hu := hu_of hr.toRoom
  exact (dss_cons (ds_set 2 S.nd (de_lst da_nil))
  (dss_cons (ds_for PassesOwn.never rfl (di_enT hK (by rfl) b_enumerate (da_cons (de_ixN 0 de_int (fun _ _ => rfl)) da_nil)) (dg_tup (n := 2) rfl (dgs_cons (dg_name 3 S.nd) (dgs_cons (dg_name 4 S.nd) dgs_nil)))
  (dss_cons (ds_if (dt_cmpNR 1 (sc_eq hr.units) (de_ixN 4 de_int (fun _ _ => rfl)) (nomark _)) (dss_one (ds_expr (de_app 2 (de_tup (da_cons (de_name 3) (da_cons de_int da_nil)))))) dss_nil)
  (dss_one (ds_if (dt_cmpNR 1 (sc_eq hr.units) (de_ixN 4 de_int (fun _ _ => rfl)) (nomark _)) (dss_one (ds_expr (de_app 2 (de_tup (da_cons (de_name 3) (da_cons (de_un do_neg de_int) da_nil)))))) dss_nil))))
  (dss_one (ds_ret (de_ct (cl_tup hK) (by rfl) b_tuple (by decide +kernel) (da_cons (de_name 2) da_nil))))))
abbrev nways_over : List Str := ["web", "room", "ties", "tie", "side"]
abbrev pways_over : List Str := ["web", "room", "ties"]
theorem scways_over : FnScope nways_over pways_over (defScope sways_over) := ⟨rfl, rfl, rfl, by decide +kernel, rfl, by decide +kernel, by decide +kernel⟩
theorem kways_over {f : Addr} {fd : FuncData} (hKK : K = TabF.K) (hCN : ∀ a, TabF.C a = none) (F : FunD K "ways_over" "ways_over" (defArgs sways_over) (defBody sways_over) (defScope sways_over) [] [] f fd) (hm : mg "ways_over" = some (.ref f)) (cways_out : CalD P w K mg base 1 "ways_out" Cways_out) : CalD P w K mg base 2 "ways_over" Cways_over := by
  have S := scways_over
  refine def_ok false F S hm (F.bindsN fun _ _ _ _ _ _ us hl => match us, hl with | [_, _, _], _ => rfl) wways_over lenways_over (fun z => nomatch z) specways_over (fun cdv A outer s H E Δ hr hK ha0 => ?_)
  have hu := hu_of hr.toRoom
  exact (dss_one (ds_ret (de_lc (own := [("tie", 3), ("side", 4)]) rfl S.nd (di_t (de_callP cways_out hK (hr.mono (by decide)) (by rfl) (da_cons (de_name 0) (da_cons (de_name 1) da_nil)))) (blkOk_by (own := [("tie", 3), ("side", 4)]) (N := nways_over) (sc := defScope sways_over) (by decide +kernel)) (fun _ _ _ _ _ Δ _ => (dg_tup (n := 2) rfl (dgs_cons (dg_name 3 S.nd) (dgs_cons (dg_name 4 S.nd) dgs_nil)))) (fun _ _ _ _ _ Δ e1 => (pts_one (dt_cmpNR 2 sc_in (de_name 3) (by rfl)))) (fun _ _ _ _ _ Δ e2 => (de_tup (da_cons (de_name 3) (da_cons (de_name 4) da_nil)))))))
abbrev nends_of : List Str := ["web", "tie", "side", "v", "w", "p", "q"]
abbrev pends_of : List Str := ["web", "tie", "side"]
theorem scends_of : FnScope nends_of pends_of (defScope sends_of) := ⟨rfl, rfl, rfl, by decide +kernel, rfl, by decide +kernel, by decide +kernel⟩
theorem kends_of {f : Addr} {fd : FuncData} (hKK : K = TabF.K) (hCN : ∀ a, TabF.C a = none) (F : FunD K "ends_of" "ends_of" (defArgs sends_of) (defBody sends_of) (defScope sends_of) [] [] f fd) (hm : mg "ends_of" = some (.ref f)) : CalD P w K mg base 1 "ends_of" Cends_of := by
  have S := scends_of
  refine def_ok false F S hm (F.bindsN fun _ _ _ _ _ _ us hl => match us, hl with | [_, _, _], _ => rfl) wends_of lenends_of (fun z => nomatch z) specends_of (fun cdv A outer s H E Δ hr hK ha0 => ?_)
  have hu := hu_of hr.toRoom
  exact (dss_cons (ds_asg (de_ix (de_ixN 0 de_int (fun _ _ => rfl)) (de_name 1) (fun _ _ => rfl)) (dg_tup (n := 4) rfl (dgs_cons (dg_name 3 S.nd) (dgs_cons (dg_name 4 S.nd) (dgs_cons (dg_name 5 S.nd) (dgs_cons (dg_name 6 S.nd) dgs_nil))))))
  (dss_cons (ds_if (dt_cmpNL 2 (sc_eq hr.units) de_int (nomark _)) (dss_one (ds_ret (de_tup (da_cons (de_name 3) (da_cons (de_name 4) (da_cons (de_name 5) (da_cons (de_name 6) da_nil))))))) dss_nil)
  (dss_one (ds_ret (de_tup (da_cons (de_name 4) (da_cons (de_name 3) (da_cons (de_name 6) (da_cons (de_name 5) da_nil)))))))))
abbrev nfirst_ways : List Str := ["web", "room", "ties", "ways", "tree", "waiting", "at", "tie", "side", "other"]
abbrev pfirst_ways : List Str := ["web", "room", "ties"]
theorem scfirst_ways : FnScope nfirst_ways pfirst_ways (defScope sfirst_ways) := ⟨rfl, rfl, rfl, by decide +kernel, rfl, by decide +kernel, by decide +kernel⟩
theorem kfirst_ways {f : Addr} {fd : FuncData} (hKK : K = TabF.K) (hCN : ∀ a, TabF.C a = none) (F : FunD K "first_ways" "first_ways" (defArgs sfirst_ways) (defBody sfirst_ways) (defScope sfirst_ways) [] [] f fd) (hm : mg "first_ways" = some (.ref f)) (cends_of : CalD P w K mg base 1 "ends_of" Cends_of) (cways_over : CalD P w K mg base 2 "ways_over" Cways_over) : CalD P w K mg base 3 "first_ways" Cfirst_ways := by
  have S := scfirst_ways
  refine def_ok false F S hm (F.bindsN fun _ _ _ _ _ _ us hl => match us, hl with | [_, _, _], _ => rfl) wfirst_ways lenfirst_ways (fun z => nomatch z) specfirst_ways (fun cdv A outer s H E Δ hr hK ha0 => ?_)
  have hu := hu_of hr.toRoom
  exact (dss_cons (ds_set 3 S.nd (de_disp1 (fun Δ e1 => (de_name 1)) (fun Δ e2 => (de_tup (da_cons (de_name 1) (da_cons de_int (da_cons (de_tup da_nil) da_nil)))))))
  (dss_cons (ds_set 4 S.nd (de_lst da_nil))
  (dss_cons (ds_set 5 S.nd (de_lst (da_cons (de_name 1) da_nil)))
  (dss_cons (ds_wh PassesOwn.never (dt_truN 5)
  (dss_cons (ds_set 6 S.nd (de_pop0 5))
  (dss_one (ds_for PassesOwn.never rfl (di_l (de_callP cways_over hK (hr.mono (by decide)) (by rfl) (da_cons (de_name 0) (da_cons (de_name 6) (da_cons (de_name 2) da_nil))))) (dg_tup (n := 2) rfl (dgs_cons (dg_name 7 S.nd) (dgs_cons (dg_name 8 S.nd) dgs_nil)))
  (dss_cons (ds_set 9 S.nd (de_ix (de_callP cends_of hK (hr.mono (by decide)) (by rfl) (da_cons (de_name 0) (da_cons (de_name 7) (da_cons (de_name 8) da_nil)))) de_int (fun _ _ => rfl)))
  (dss_one (ds_if (dt_dnin 3 hr.units (de_name 9)) (dss_cons (ds_dput 3 hr.units (de_tup (da_cons (de_name 1) (da_cons de_int (da_cons (de_op (do_add hK) (de_ix (de_dix (hs := fun _ _ => rfl) 3 hr.units (de_name 6)) de_int (fun _ _ => rfl)) (de_tup (da_cons (de_tup (da_cons (de_name 7) (da_cons (de_name 8) (da_cons de_int da_nil)))) da_nil))) da_nil)))) (de_name 9))
  (dss_cons (ds_expr (de_app 4 (de_name 7)))
  (dss_one (ds_expr (de_app 5 (de_name 9)))))) dss_nil)))))))
  (dss_one (ds_ret (de_tup (da_cons (de_frz 3) (da_cons (de_name 4) da_nil)))))))))
abbrev nnumbers_of : List Str := ["walk", "step"]
abbrev pnumbers_of : List Str := ["walk"]
theorem scnumbers_of : FnScope nnumbers_of pnumbers_of (defScope snumbers_of) := ⟨rfl, rfl, rfl, by decide +kernel, rfl, by decide +kernel, by decide +kernel⟩
theorem knumbers_of {f : Addr} {fd : FuncData} (hKK : K = TabF.K) (hCN : ∀ a, TabF.C a = none) (F : FunD K "numbers_of" "numbers_of" (defArgs snumbers_of) (defBody snumbers_of) (defScope snumbers_of) [] [] f fd) (hm : mg "numbers_of" = some (.ref f)) : CalD P w K mg base 1 "numbers_of" Cnumbers_of := by
  have S := scnumbers_of
  refine def_ok false F S hm (F.bindsN fun _ _ _ _ _ _ us hl => match us, hl with | [_], _ => rfl) wnumbers_of lennumbers_of (fun z => nomatch z) specnumbers_of (fun cdv A outer s H E Δ hr hK ha0 => ?_)
  have hu := hu_of hr.toRoom
  exact (dss_one (ds_ret (de_op (do_add hK) (de_lst (da_cons (de_ixN 0 de_int (fun _ _ => rfl)) da_nil)) (de_lc (own := [("step", 1)]) rfl S.nd (di_t (de_ixN 0 de_int (fun _ _ => rfl))) (blkOk_by (own := [("step", 1)]) (N := nnumbers_of) (sc := defScope snumbers_of) (by decide +kernel)) (fun _ _ _ _ _ Δ _ => (dg_name 1 S.nd)) (fun _ _ _ _ _ Δ e0 => (dts_nil)) (fun _ _ _ _ _ Δ e1 => (de_ixN 1 de_int (fun _ _ => rfl)))))))
abbrev ncrossings_of : List Str := ["walk", "tie", "side", "_"]
abbrev pcrossings_of : List Str := ["walk"]
theorem sccrossings_of : FnScope ncrossings_of pcrossings_of (defScope scrossings_of) := ⟨rfl, rfl, rfl, by decide +kernel, rfl, by decide +kernel, by decide +kernel⟩
theorem kcrossings_of {f : Addr} {fd : FuncData} (hKK : K = TabF.K) (hCN : ∀ a, TabF.C a = none) (F : FunD K "crossings_of" "crossings_of" (defArgs scrossings_of) (defBody scrossings_of) (defScope scrossings_of) [] [] f fd) (hm : mg "crossings_of" = some (.ref f)) : CalD P w K mg base 1 "crossings_of" Ccrossings_of := by
  have S := sccrossings_of
  refine def_ok false F S hm (F.bindsN fun _ _ _ _ _ _ us hl => match us, hl with | [_], _ => rfl) wcrossings_of lencrossings_of (fun z => nomatch z) speccrossings_of (fun cdv A outer s H E Δ hr hK ha0 => ?_)
  have hu := hu_of hr.toRoom
  exact (dss_one (ds_ret (de_lc (own := [("tie", 1), ("side", 2), ("_", 3)]) rfl S.nd (di_t (de_ixN 0 de_int (fun _ _ => rfl))) (blkOk_by (own := [("tie", 1), ("side", 2), ("_", 3)]) (N := ncrossings_of) (sc := defScope scrossings_of) (by decide +kernel)) (fun _ _ _ _ _ Δ _ => (dg_tup (n := 3) rfl (dgs_cons (dg_name 1 S.nd) (dgs_cons (dg_name 2 S.nd) (dgs_cons (dg_name 3 S.nd) dgs_nil))))) (fun _ _ _ _ _ Δ e0 => (dts_nil)) (fun _ _ _ _ _ Δ e1 => (de_tup (da_cons (de_name 1) (da_cons (de_name 2) da_nil)))))))
abbrev nwalk_with : List Str := ["room", "numbers", "crossings", "steps", "turns", "tie", "side"]
abbrev pwalk_with : List Str := ["room", "numbers", "crossings"]
theorem scwalk_with : FnScope nwalk_with pwalk_with (defScope swalk_with) := ⟨rfl, rfl, rfl, by decide +kernel, rfl, by decide +kernel, by decide +kernel⟩
theorem kwalk_with {f : Addr} {fd : FuncData} (hKK : K = TabF.K) (hCN : ∀ a, TabF.C a = none) (F : FunD K "walk_with" "walk_with" (defArgs swalk_with) (defBody swalk_with) (defScope swalk_with) [] [] f fd) (hm : mg "walk_with" = some (.ref f)) (b_tuple : mg "tuple" = none) (b_zip : mg "zip" = none) : CalD P w K mg base 1 "walk_with" Cwalk_with := by
  have S := scwalk_with
  refine def_ok false F S hm (F.bindsN fun _ _ _ _ _ _ us hl => match us, hl with | [_, _, _], _ => rfl) wwalk_with lenwalk_with (fun z => nomatch z) specwalk_with (fun cdv A outer s H E Δ hr hK ha0 => ?_)
  have hu := hu_of hr.toRoom
  exact (dss_cons (ds_setLc (own := [("turns", 4), ("tie", 5), ("side", 6)]) 3 rfl rfl rfl (sw_true rfl rfl rfl (by decide +kernel)) S.nd (di_z (by rfl) b_zip (da_cons (de_name 2) (da_cons (de_slN 1 (do_some de_int) do_none) da_nil))) (blkOk_by (own := [("turns", 4), ("tie", 5), ("side", 6)]) (N := nwalk_with) (sc := defScope swalk_with) (by decide +kernel)) (fun _ _ _ _ _ Δ _ => (dg_tup (n := 2) rfl (dgs_cons (dg_tup (n := 2) rfl (dgs_cons (dg_name 5 S.nd) (dgs_cons (dg_name 6 S.nd) dgs_nil))) (dgs_cons (dg_name 4 S.nd) dgs_nil)))) (fun _ _ _ _ _ Δ e0 => (dts_nil)) (fun _ _ _ _ _ Δ e1 => (de_tup (da_cons (de_name 5) (da_cons (de_name 6) (da_cons (de_name 4) da_nil))))))
  (dss_one (ds_ret (de_tup (da_cons (de_name 0) (da_cons (de_ixN 1 de_int (fun _ _ => rfl)) (da_cons (de_ct (cl_tup hK) (by rfl) b_tuple (by decide +kernel) (da_cons (de_name 3) da_nil)) da_nil)))))))
abbrev njoined_of_any_size : List Str := ["walks", "numbers", "crossings", "walk"]
abbrev pjoined_of_any_size : List Str := ["walks"]
theorem scjoined_of_any_size : FnScope njoined_of_any_size pjoined_of_any_size (defScope sjoined_of_any_size) := ⟨rfl, rfl, rfl, by decide +kernel, rfl, by decide +kernel, by decide +kernel⟩
theorem kjoined_of_any_size {f : Addr} {fd : FuncData} (hKK : K = TabF.K) (hCN : ∀ a, TabF.C a = none) (F : FunD K "joined_of_any_size" "joined_of_any_size" (defArgs sjoined_of_any_size) (defBody sjoined_of_any_size) (defScope sjoined_of_any_size) [] [] f fd) (hm : mg "joined_of_any_size" = some (.ref f)) (ccrossings_of : CalD P w K mg base 1 "crossings_of" Ccrossings_of) (cnumbers_of : CalD P w K mg base 1 "numbers_of" Cnumbers_of) (cwalk_with : CalD P w K mg base 1 "walk_with" Cwalk_with) : CalD P w K mg base 2 "joined_of_any_size" Cjoined_of_any_size := by
  have S := scjoined_of_any_size
  refine def_ok false F S hm (F.bindsN fun _ _ _ _ _ _ us hl => match us, hl with | [_], _ => rfl) wjoined_of_any_size lenjoined_of_any_size (fun z => nomatch z) specjoined_of_any_size (fun cdv A outer s H E Δ hr hK ha0 => ?_)
  have hu := hu_of hr.toRoom
  exact (dss_cons (ds_set 1 S.nd (de_callP cnumbers_of hK (hr.mono (by decide)) (by rfl) (da_cons (de_ixN 0 de_int (fun _ _ => rfl)) da_nil)))
  (dss_cons (ds_set 2 S.nd (de_callP ccrossings_of hK (hr.mono (by decide)) (by rfl) (da_cons (de_ixN 0 de_int (fun _ _ => rfl)) da_nil)))
  (dss_cons (ds_for PassesOwn.never rfl (di_l (de_slN 0 (do_some de_int) do_none)) (dg_name 3 S.nd)
  (dss_cons (ds_setIM 1 (de_un do_neg de_int) (de_ixN 3 de_int (fun _ _ => rfl)) ip_add)
  (dss_cons (ds_expr (de_ext 1 (de_sl (de_callP cnumbers_of hK (hr.mono (by decide)) (by rfl) (da_cons (de_name 3) da_nil)) (do_some de_int) do_none)))
  (dss_one (ds_expr (de_ext 2 (de_callP ccrossings_of hK (hr.mono (by decide)) (by rfl) (da_cons (de_name 3) da_nil))))))))
  (dss_one (ds_ret (de_callP cwalk_with hK (hr.mono (by decide)) (by rfl) (da_cons (de_ix (de_ixN 0 de_int (fun _ _ => rfl)) de_int (fun _ _ => rfl)) (da_cons (de_name 1) (da_cons (de_name 2) da_nil)))))))))
abbrev nend_room : List Str := ["web", "walk", "tie", "side", "_"]
abbrev pend_room : List Str := ["web", "walk"]
theorem scend_room : FnScope nend_room pend_room (defScope send_room) := ⟨rfl, rfl, rfl, by decide +kernel, rfl, by decide +kernel, by decide +kernel⟩
theorem kend_room {f : Addr} {fd : FuncData} (hKK : K = TabF.K) (hCN : ∀ a, TabF.C a = none) (F : FunD K "end_room" "end_room" (defArgs send_room) (defBody send_room) (defScope send_room) [] [] f fd) (hm : mg "end_room" = some (.ref f)) (cends_of : CalD P w K mg base 1 "ends_of" Cends_of) : CalD P w K mg base 2 "end_room" Cend_room := by
  have S := scend_room
  refine def_ok false F S hm (F.bindsN fun _ _ _ _ _ _ us hl => match us, hl with | [_, _], _ => rfl) wend_room lenend_room (fun z => nomatch z) specend_room (fun cdv A outer s H E Δ hr hK ha0 => ?_)
  have hu := hu_of hr.toRoom
  exact (dss_cons (ds_if (dt_not (dt_tru (de_ixN 1 de_int (fun _ _ => rfl)))) (dss_one (ds_ret (de_ixN 1 de_int (fun _ _ => rfl)))) dss_nil)
  (dss_cons (ds_asg (de_ix (de_ixN 1 de_int (fun _ _ => rfl)) (de_un do_neg de_int) (fun _ _ => rfl)) (dg_tup (n := 3) rfl (dgs_cons (dg_name 2 S.nd) (dgs_cons (dg_name 3 S.nd) (dgs_cons (dg_name 4 S.nd) dgs_nil)))))
  (dss_one (ds_ret (de_ix (de_callP cends_of hK (hr.mono (by decide)) (by rfl) (da_cons (de_name 0) (da_cons (de_name 2) (da_cons (de_name 3) da_nil)))) de_int (fun _ _ => rfl))))))
abbrev ncrossings_back : List Str := ["crossings", "tie", "side"]
abbrev pcrossings_back : List Str := ["crossings"]
theorem sccrossings_back : FnScope ncrossings_back pcrossings_back (defScope scrossings_back) := ⟨rfl, rfl, rfl, by decide +kernel, rfl, by decide +kernel, by decide +kernel⟩
theorem kcrossings_back {f : Addr} {fd : FuncData} (hKK : K = TabF.K) (hCN : ∀ a, TabF.C a = none) (F : FunD K "crossings_back" "crossings_back" (defArgs scrossings_back) (defBody scrossings_back) (defScope scrossings_back) [] [] f fd) (hm : mg "crossings_back" = some (.ref f)) : CalD P w K mg base 1 "crossings_back" Ccrossings_back := by
  have S := sccrossings_back
  refine def_ok false F S hm (F.bindsN fun _ _ _ _ _ _ us hl => match us, hl with | [_], _ => rfl) wcrossings_back lencrossings_back (fun z => nomatch z) speccrossings_back (fun cdv A outer s H E Δ hr hK ha0 => ?_)
  have hu := hu_of hr.toRoom
  exact (dss_one (ds_ret (de_lc (own := [("tie", 1), ("side", 2)]) rfl S.nd (di_l (de_revL (de_name 0) hK)) (blkOk_by (own := [("tie", 1), ("side", 2)]) (N := ncrossings_back) (sc := defScope scrossings_back) (by decide +kernel)) (fun _ _ _ _ _ Δ _ => (dg_tup (n := 2) rfl (dgs_cons (dg_name 1 S.nd) (dgs_cons (dg_name 2 S.nd) dgs_nil)))) (fun _ _ _ _ _ Δ e0 => (dts_nil)) (fun _ _ _ _ _ Δ e1 => (de_tup (da_cons (de_name 1) (da_cons (de_un do_neg (de_name 2)) da_nil)))))))
abbrev nopposite_walk : List Str := ["web", "walk", "numbers", "turns"]
abbrev popposite_walk : List Str := ["web", "walk"]
theorem scopposite_walk : FnScope nopposite_walk popposite_walk (defScope sopposite_walk) := ⟨rfl, rfl, rfl, by decide +kernel, rfl, by decide +kernel, by decide +kernel⟩
theorem kopposite_walk {f : Addr} {fd : FuncData} (hKK : K = TabF.K) (hCN : ∀ a, TabF.C a = none) (F : FunD K "opposite_walk" "opposite_walk" (defArgs sopposite_walk) (defBody sopposite_walk) (defScope sopposite_walk) [] [] f fd) (hm : mg "opposite_walk" = some (.ref f)) (ccrossings_back : CalD P w K mg base 1 "crossings_back" Ccrossings_back) (ccrossings_of : CalD P w K mg base 1 "crossings_of" Ccrossings_of) (cend_room : CalD P w K mg base 2 "end_room" Cend_room) (cnumbers_of : CalD P w K mg base 1 "numbers_of" Cnumbers_of) (cwalk_with : CalD P w K mg base 1 "walk_with" Cwalk_with) : CalD P w K mg base 3 "opposite_walk" Copposite_walk := by
  have S := scopposite_walk
  refine def_ok false F S hm (F.bindsN fun _ _ _ _ _ _ us hl => match us, hl with | [_, _], _ => rfl) wopposite_walk lenopposite_walk (fun z => nomatch z) specopposite_walk (fun cdv A outer s H E Δ hr hK ha0 => ?_)
  have hu := hu_of hr.toRoom
  exact (dss_cons (ds_setLc (own := [("turns", 3)]) 2 rfl rfl rfl (sw_true rfl rfl rfl (by decide +kernel)) S.nd (di_l (de_revL (de_callP cnumbers_of hK (hr.mono (by decide)) (by rfl) (da_cons (de_name 1) da_nil)) hK)) (blkOk_by (own := [("turns", 3)]) (N := nopposite_walk) (sc := defScope sopposite_walk) (by decide +kernel)) (fun _ _ _ _ _ Δ _ => (dg_name 3 S.nd)) (fun _ _ _ _ _ Δ e0 => (dts_nil)) (fun _ _ _ _ _ Δ e1 => (de_un do_neg (de_name 3))))
  (dss_one (ds_ret (de_callP cwalk_with hK (hr.mono (by decide)) (by rfl) (da_cons (de_callP cend_room hK (hr.mono (by decide)) (by rfl) (da_cons (de_name 0) (da_cons (de_name 1) da_nil))) (da_cons (de_name 2) (da_cons (de_callP ccrossings_back hK (hr.mono (by decide)) (by rfl) (da_cons (de_callP ccrossings_of hK (hr.mono (by decide)) (by rfl) (da_cons (de_name 1) da_nil)) da_nil)) da_nil)))))))
abbrev nbrought_along : List Str := ["web", "way", "walk"]
abbrev pbrought_along : List Str := ["web", "way", "walk"]
theorem scbrought_along : FnScope nbrought_along pbrought_along (defScope sbrought_along) := ⟨rfl, rfl, rfl, by decide +kernel, rfl, by decide +kernel, by decide +kernel⟩
theorem kbrought_along {f : Addr} {fd : FuncData} (hKK : K = TabF.K) (hCN : ∀ a, TabF.C a = none) (F : FunD K "brought_along" "brought_along" (defArgs sbrought_along) (defBody sbrought_along) (defScope sbrought_along) [] [] f fd) (hm : mg "brought_along" = some (.ref f)) (cjoined_of_any_size : CalD P w K mg base 2 "joined_of_any_size" Cjoined_of_any_size) (copposite_walk : CalD P w K mg base 3 "opposite_walk" Copposite_walk) : CalD P w K mg base 4 "brought_along" Cbrought_along := by
  have S := scbrought_along
  refine def_ok false F S hm (F.bindsN fun _ _ _ _ _ _ us hl => match us, hl with | [_, _, _], _ => rfl) wbrought_along lenbrought_along (fun z => nomatch z) specbrought_along (fun cdv A outer s H E Δ hr hK ha0 => ?_)
  have hu := hu_of hr.toRoom
  exact (dss_one (ds_ret (de_callP cjoined_of_any_size hK (hr.mono (by decide)) (by rfl) (da_cons (de_lst (da_cons (de_name 1) (da_cons (de_name 2) (da_cons (de_callP copposite_walk hK (hr.mono (by decide)) (by rfl) (da_cons (de_name 0) (da_cons (de_name 1) da_nil))) da_nil)))) da_nil))))
abbrev nrings_over : List Str := ["web", "room", "ties", "ways", "tree", "rings", "tie", "v", "w", "_", "crossing"]
abbrev prings_over : List Str := ["web", "room", "ties"]
theorem scrings_over : FnScope nrings_over prings_over (defScope srings_over) := ⟨rfl, rfl, rfl, by decide +kernel, rfl, by decide +kernel, by decide +kernel⟩
theorem krings_over {f : Addr} {fd : FuncData} (hKK : K = TabF.K) (hCN : ∀ a, TabF.C a = none) (F : FunD K "rings_over" "rings_over" (defArgs srings_over) (defBody srings_over) (defScope srings_over) [] [] f fd) (hm : mg "rings_over" = some (.ref f)) (b_tuple : mg "tuple" = none) (cends_of : CalD P w K mg base 1 "ends_of" Cends_of) (cfirst_ways : CalD P w K mg base 3 "first_ways" Cfirst_ways) (cjoined_of_any_size : CalD P w K mg base 2 "joined_of_any_size" Cjoined_of_any_size) (copposite_walk : CalD P w K mg base 3 "opposite_walk" Copposite_walk) : CalD P w K mg base 4 "rings_over" Crings_over := by
  have S := scrings_over
  refine def_ok false F S hm (F.bindsN fun _ _ _ _ _ _ us hl => match us, hl with | [_, _, _], _ => rfl) wrings_over lenrings_over (fun z => nomatch z) specrings_over (fun cdv A outer s H E Δ hr hK ha0 => ?_)
  have hu := hu_of hr.toRoom
  exact (dss_cons (ds_asg (de_callP cfirst_ways hK (hr.mono (by decide)) (by rfl) (da_cons (de_name 0) (da_cons (de_name 1) (da_cons (de_name 2) da_nil)))) (dg_tup (n := 2) rfl (dgs_cons (dg_name 3 S.nd) (dgs_cons (dg_name 4 S.nd) dgs_nil))))
  (dss_cons (ds_set 5 S.nd (de_lst da_nil))
  (dss_cons (ds_for PassesOwn.never rfl (di_l (de_name 2)) (dg_name 6 S.nd)
  (dss_one (ds_if (dt_cmpNR 4 sc_notin (de_name 6) (by rfl)) (dss_cons (ds_asg (de_callP cends_of hK (hr.mono (by decide)) (by rfl) (da_cons (de_name 0) (da_cons (de_name 6) (da_cons de_int da_nil)))) (dg_tup (n := 4) rfl (dgs_cons (dg_name 7 S.nd) (dgs_cons (dg_name 8 S.nd) (dgs_cons (dg_name 9 S.nd) (dgs_cons (dg_name 9 S.nd) dgs_nil))))))
  (dss_cons (ds_set 10 S.nd (de_tup (da_cons (de_name 7) (da_cons de_int (da_cons (de_tup (da_cons (de_tup (da_cons (de_name 6) (da_cons de_int (da_cons de_int da_nil)))) da_nil)) da_nil)))))
  (dss_one (ds_expr (de_app 5 (de_callP cjoined_of_any_size hK (hr.mono (by decide)) (by rfl) (da_cons (de_lst (da_cons (de_dixF (hs := fun _ _ => rfl) 3 hr.units (de_name 7)) (da_cons (de_name 10) (da_cons (de_callP copposite_walk hK (hr.mono (by decide)) (by rfl) (da_cons (de_name 0) (da_cons (de_dixF (hs := fun _ _ => rfl) 3 hr.units (de_name 8)) da_nil))) da_nil)))) da_nil))))))) dss_nil)))
  (dss_one (ds_ret (de_ct (cl_tup hK) (by rfl) b_tuple (by decide +kernel) (da_cons (de_name 5) da_nil)))))))
abbrev npiece_of : List Str := ["web", "room", "met", "waiting", "at", "tie", "side", "other"]
abbrev ppiece_of : List Str := ["web", "room"]
theorem scpiece_of : FnScope npiece_of ppiece_of (defScope spiece_of) := ⟨rfl, rfl, rfl, by decide +kernel, rfl, by decide +kernel, by decide +kernel⟩
theorem kpiece_of {f : Addr} {fd : FuncData} (hKK : K = TabF.K) (hCN : ∀ a, TabF.C a = none) (F : FunD K "piece_of" "piece_of" (defArgs spiece_of) (defBody spiece_of) (defScope spiece_of) [] [] f fd) (hm : mg "piece_of" = some (.ref f)) (b_sorted : mg "sorted" = none) (b_tuple : mg "tuple" = none) (cends_of : CalD P w K mg base 1 "ends_of" Cends_of) (cways_out : CalD P w K mg base 1 "ways_out" Cways_out) : CalD P w K mg base 2 "piece_of" Cpiece_of := by
  have S := scpiece_of
  refine def_ok false F S hm (F.bindsN fun _ _ _ _ _ _ us hl => match us, hl with | [_, _], _ => rfl) wpiece_of lenpiece_of (fun z => nomatch z) specpiece_of (fun cdv A outer s H E Δ hr hK ha0 => ?_)
  have hu := hu_of hr.toRoom
  exact (dss_cons (ds_set 2 S.nd (de_lst (da_cons (de_name 1) da_nil)))
  (dss_cons (ds_set 3 S.nd (de_lst (da_cons (de_name 1) da_nil)))
  (dss_cons (ds_wh PassesOwn.never (dt_truN 3)
  (dss_cons (ds_set 4 S.nd (de_pop 3))
  (dss_one (ds_for PassesOwn.never rfl (di_t (de_callP cways_out hK (hr.mono (by decide)) (by rfl) (da_cons (de_name 0) (da_cons (de_name 4) da_nil)))) (dg_tup (n := 2) rfl (dgs_cons (dg_name 5 S.nd) (dgs_cons (dg_name 6 S.nd) dgs_nil)))
  (dss_cons (ds_set 7 S.nd (de_ix (de_callP cends_of hK (hr.mono (by decide)) (by rfl) (da_cons (de_name 0) (da_cons (de_name 5) (da_cons (de_name 6) da_nil)))) de_int (fun _ _ => rfl)))
  (dss_one (ds_if (dt_cmpNR 2 sc_notin (de_name 7) (by rfl)) (dss_cons (ds_expr (de_app 2 (de_name 7)))
  (dss_one (ds_expr (de_app 3 (de_name 7))))) dss_nil)))))))
  (dss_one (ds_ret (de_ct (cl_tup hK) (by rfl) b_tuple (by decide +kernel) (da_cons (de_cb (cl_sortI hK) (by rfl) b_sorted (by decide +kernel) (da_cons (de_name 2) da_nil)) da_nil)))))))
abbrev nties_of_piece : List Str := ["web", "room", "piece", "number", "tie"]
abbrev pties_of_piece : List Str := ["web", "room"]
theorem scties_of_piece : FnScope nties_of_piece pties_of_piece (defScope sties_of_piece) := ⟨rfl, rfl, rfl, by decide +kernel, rfl, by decide +kernel, by decide +kernel⟩
theorem kties_of_piece {f : Addr} {fd : FuncData} (hKK : K = TabF.K) (hCN : ∀ a, TabF.C a = none) (F : FunD K "ties_of_piece" "ties_of_piece" (defArgs sties_of_piece) (defBody sties_of_piece) (defScope sties_of_piece) [] [] f fd) (hm : mg "ties_of_piece" = some (.ref f)) (b_enumerate : mg "enumerate" = none) (cpiece_of : CalD P w K mg base 2 "piece_of" Cpiece_of) : CalD P w K mg base 3 "ties_of_piece" Cties_of_piece := by
  have S := scties_of_piece
  refine def_ok false F S hm (F.bindsN fun _ _ _ _ _ _ us hl => match us, hl with | [_, _], _ => rfl) wties_of_piece lenties_of_piece (fun z => nomatch z) specties_of_piece (fun cdv A outer s H E Δ hr hK ha0 => ?_)
  have hu := hu_of hr.toRoom
  exact (dss_cons (ds_set 2 S.nd (de_callP cpiece_of hK (hr.mono (by decide)) (by rfl) (da_cons (de_name 0) (da_cons (de_name 1) da_nil))))
  (dss_one (ds_ret (de_lc (own := [("number", 3), ("tie", 4)]) rfl S.nd (di_enT hK (by rfl) b_enumerate (da_cons (de_ixN 0 de_int (fun _ _ => rfl)) da_nil)) (blkOk_by (own := [("number", 3), ("tie", 4)]) (N := nties_of_piece) (sc := defScope sties_of_piece) (by decide +kernel)) (fun _ _ _ _ _ Δ _ => (dg_tup (n := 2) rfl (dgs_cons (dg_name 3 S.nd) (dgs_cons (dg_name 4 S.nd) dgs_nil)))) (fun _ _ _ _ _ Δ e1 => (pts_one (dt_cmpNR 2 sc_in (de_ixN 4 de_int (fun _ _ => rfl)) (by rfl)))) (fun _ _ _ _ _ Δ e2 => (de_name 3))))))
abbrev nrings_at : List Str := ["web", "room"]
abbrev prings_at : List Str := ["web", "room"]
theorem scrings_at : FnScope nrings_at prings_at (defScope srings_at) := ⟨rfl, rfl, rfl, by decide +kernel, rfl, by decide +kernel, by decide +kernel⟩
theorem krings_at {f : Addr} {fd : FuncData} (hKK : K = TabF.K) (hCN : ∀ a, TabF.C a = none) (F : FunD K "rings_at" "rings_at" (defArgs srings_at) (defBody srings_at) (defScope srings_at) [] [] f fd) (hm : mg "rings_at" = some (.ref f)) (crings_over : CalD P w K mg base 4 "rings_over" Crings_over) (cties_of_piece : CalD P w K mg base 3 "ties_of_piece" Cties_of_piece) : CalD P w K mg base 5 "rings_at" Crings_at := by
  have S := scrings_at
  refine def_ok false F S hm (F.bindsN fun _ _ _ _ _ _ us hl => match us, hl with | [_, _], _ => rfl) wrings_at lenrings_at (fun z => nomatch z) specrings_at (fun cdv A outer s H E Δ hr hK ha0 => ?_)
  have hu := hu_of hr.toRoom
  exact (dss_one (ds_ret (de_callP crings_over hK (hr.mono (by decide)) (by rfl) (da_cons (de_name 0) (da_cons (de_name 1) (da_cons (de_callP cties_of_piece hK (hr.mono (by decide)) (by rfl) (da_cons (de_name 0) (da_cons (de_name 1) da_nil))) da_nil))))))
abbrev nsources_at : List Str := ["web", "room", "ways", "turnings", "other", "way"]
abbrev psources_at : List Str := ["web", "room"]
theorem scsources_at : FnScope nsources_at psources_at (defScope ssources_at) := ⟨rfl, rfl, rfl, by decide +kernel, rfl, by decide +kernel, by decide +kernel⟩
theorem ksources_at {f : Addr} {fd : FuncData} (hKK : K = TabF.K) (hCN : ∀ a, TabF.C a = none) (F : FunD K "sources_at" "sources_at" (defArgs ssources_at) (defBody ssources_at) (defScope ssources_at) [] [] f fd) (hm : mg "sources_at" = some (.ref f)) (b_tuple : mg "tuple" = none) (cbrought_along : CalD P w K mg base 4 "brought_along" Cbrought_along) (cfirst_ways : CalD P w K mg base 3 "first_ways" Cfirst_ways) (crings_at : CalD P w K mg base 5 "rings_at" Crings_at) (cties_of_piece : CalD P w K mg base 3 "ties_of_piece" Cties_of_piece) : CalD P w K mg base 6 "sources_at" Csources_at := by
  have S := scsources_at
  refine def_ok false F S hm (F.bindsN fun _ _ _ _ _ _ us hl => match us, hl with | [_, _], _ => rfl) wsources_at lensources_at (fun z => nomatch z) specsources_at (fun cdv A outer s H E Δ hr hK ha0 => ?_)
  have hu := hu_of hr.toRoom
  exact (dss_cons (ds_set 2 S.nd (de_ix (de_callP cfirst_ways hK (hr.mono (by decide)) (by rfl) (da_cons (de_name 0) (da_cons (de_name 1) (da_cons (de_callP cties_of_piece hK (hr.mono (by decide)) (by rfl) (da_cons (de_name 0) (da_cons (de_name 1) da_nil))) da_nil)))) de_int (fun _ _ => rfl)))
  (dss_cons (ds_setLc (own := [("other", 4), ("way", 5)]) 3 rfl rfl rfl (sw_true rfl rfl rfl (by decide +kernel)) S.nd (di_di (de_name 2)) (blkOk_by (own := [("other", 4), ("way", 5)]) (N := nsources_at) (sc := defScope ssources_at) (by decide +kernel)) (fun _ _ _ _ _ Δ _ => (dg_tup (n := 2) rfl (dgs_cons (dg_name 4 S.nd) (dgs_cons (dg_name 5 S.nd) dgs_nil)))) (fun _ _ _ _ _ Δ e0 => (dts_nil)) (fun _ _ _ _ _ Δ e1 => (de_callP cbrought_along (e1.trans hK) (hr.mono (by decide)) (by rfl) (da_cons (de_name 0) (da_cons (de_name 5) (da_cons (de_tup (da_cons (de_name 4) (da_cons de_int (da_cons (de_tup da_nil) da_nil)))) da_nil))))))
  (dss_one (ds_ret (de_op (do_add hK) (de_ct (cl_tup hK) (by rfl) b_tuple (by decide +kernel) (da_cons (de_name 3) da_nil)) (de_callP crings_at hK (hr.mono (by decide)) (by rfl) (da_cons (de_name 0) (da_cons (de_name 1) da_nil))))))))
abbrev n_law_turns : List Str := ["m", "greatest"]
abbrev p_law_turns : List Str := ["m", "greatest"]
theorem sc_law_turns : FnScope n_law_turns p_law_turns (defScope s_law_turns) := ⟨rfl, rfl, rfl, by decide +kernel, rfl, by decide +kernel, by decide +kernel⟩
theorem k_law_turns {f : Addr} {fd : FuncData} (hKK : K = TabF.K) (hCN : ∀ a, TabF.C a = none) (F : FunD K "_law_turns" "_law_turns" (defArgs s_law_turns) (defBody s_law_turns) (defScope s_law_turns) [] [] f fd) (hm : mg "_law_turns" = some (.ref f)) (c_law_draw : CalD P w K mg base 1 "_law_draw" C_law_draw) (c_law_of : CalD P w K mg base 2 "_law_of" C_law_of) : CalD P w K mg base 3 "_law_turns" C_law_turns := by
  have S := sc_law_turns
  refine def_ok false F S hm (F.bindsN fun _ _ _ _ _ _ us hl => match us, hl with | [_, _], _ => rfl) w_law_turns len_law_turns (fun z => nomatch z) spec_law_turns (fun cdv A outer s H E Δ hr hK ha0 => ?_)
  have hu := hu_of hr.toRoom
  exact (dss_cons (ds_if (dt_cmp (sc_eq hr.units) (de_callG c_law_draw hK (hr.mono (by decide)) (by rfl) (da_cons (de_name 0) (da_cons de_int da_nil))) de_int (nomark _)) (dss_one (ds_ret (de_op do_mul' (de_op (do_add hK) (de_callG c_law_draw hK (hr.mono (by decide)) (by rfl) (da_cons (de_name 0) (da_cons (de_name 1) da_nil))) de_int) (de_callG c_law_of hK (hr.mono (by decide)) (by rfl) (da_cons (de_name 0) (da_cons (de_lst (da_cons de_int (da_cons (de_un do_neg de_int) da_nil))) da_nil)))))) dss_nil)
  (dss_one (ds_ret (de_op do_sub' (de_callG c_law_draw hK (hr.mono (by decide)) (by rfl) (da_cons (de_name 0) (da_cons de_int da_nil))) de_int))))
abbrev n_law_walk : List Str := ["m", "web", "room", "steps", "greatest", "first", "found", "here", "lap", "ways", "tie", "side"]
abbrev p_law_walk : List Str := ["m", "web", "room", "steps", "greatest"]
theorem sc_law_walk : FnScope n_law_walk p_law_walk (defScope s_law_walk) := ⟨rfl, rfl, rfl, by decide +kernel, rfl, by decide +kernel, by decide +kernel⟩
theorem k_law_walk {f : Addr} {fd : FuncData} (hKK : K = TabF.K) (hCN : ∀ a, TabF.C a = none) (F : FunD K "_law_walk" "_law_walk" (defArgs s_law_walk) (defBody s_law_walk) (defScope s_law_walk) [] [] f fd) (hm : mg "_law_walk" = some (.ref f)) (b_range : mg "range" = none) (b_tuple : mg "tuple" = none) (c_law_ends : CalD P w K mg base 1 "_law_ends" C_law_ends) (c_law_of : CalD P w K mg base 2 "_law_of" C_law_of) (c_law_out : CalD P w K mg base 2 "_law_out" C_law_out) (c_law_turns : CalD P w K mg base 3 "_law_turns" C_law_turns) : CalD P w K mg base 4 "_law_walk" C_law_walk := by
  have S := sc_law_walk
  refine def_ok false F S hm (F.bindsN fun _ _ _ _ _ _ us hl => match us, hl with | [_, _, _, _, _], _ => rfl) w_law_walk len_law_walk (fun z => nomatch z) spec_law_walk (fun cdv A outer s H E Δ hr hK ha0 => ?_)
  have hu := hu_of hr.toRoom
  exact (dss_cons (ds_par3 5 6 7 rfl S.nd (de_callG c_law_turns hK (hr.mono (by decide)) (by rfl) (da_cons (de_name 0) (da_cons (de_name 4) da_nil))) (fun Δ e1 => (de_lst da_nil)) (fun Δ e2 => (de_name 2)) (by rfl))
  (dss_cons (ds_for PassesOwn.never rfl (di_r1 (by rfl) b_range (da_cons (de_name 3) da_nil)) (dg_name 8 S.nd)
  (dss_cons (ds_set 9 S.nd (de_callP c_law_out hK (hr.mono (by decide)) (by rfl) (da_cons (de_name 1) (da_cons (de_name 7) da_nil))))
  (dss_one (ds_if (dt_cmpNL 9 (sc_ne hr.units) (de_lst da_nil) (nomark _)) (dss_cons (ds_asg (de_callG c_law_of hK (hr.mono (by decide)) (by rfl) (da_cons (de_name 0) (da_cons (de_name 9) da_nil))) (dg_tup (n := 2) rfl (dgs_cons (dg_name 10 S.nd) (dgs_cons (dg_name 11 S.nd) dgs_nil))))
  (dss_cons (ds_set 7 S.nd (de_ix (de_callP c_law_ends hK (hr.mono (by decide)) (by rfl) (da_cons (de_name 1) (da_cons (de_name 10) (da_cons (de_name 11) da_nil)))) de_int (fun _ _ => rfl)))
  (dss_one (ds_expr (de_app 6 (de_tup (da_cons (de_name 10) (da_cons (de_name 11) (da_cons (de_callG c_law_turns hK (hr.mono (by decide)) (by rfl) (da_cons (de_name 0) (da_cons (de_name 4) da_nil))) da_nil))))))))) dss_nil))))
  (dss_one (ds_ret (de_tup (da_cons (de_name 2) (da_cons (de_name 5) (da_cons (de_ct (cl_tup hK) (by rfl) b_tuple (by decide +kernel) (da_cons (de_name 6) da_nil)) da_nil))))))))
abbrev n_law_joined : List Str := ["one", "two", "tie", "side", "number"]
abbrev p_law_joined : List Str := ["one", "two"]
theorem sc_law_joined : FnScope n_law_joined p_law_joined (defScope s_law_joined) := ⟨rfl, rfl, rfl, by decide +kernel, rfl, by decide +kernel, by decide +kernel⟩
theorem k_law_joined {f : Addr} {fd : FuncData} (hKK : K = TabF.K) (hCN : ∀ a, TabF.C a = none) (F : FunD K "_law_joined" "_law_joined" (defArgs s_law_joined) (defBody s_law_joined) (defScope s_law_joined) [] [] f fd) (hm : mg "_law_joined" = some (.ref f)) : CalD P w K mg base 1 "_law_joined" C_law_joined := by
  have S := sc_law_joined
  refine def_ok false F S hm (F.bindsN fun _ _ _ _ _ _ us hl => match us, hl with | [_, _], _ => rfl) w_law_joined len_law_joined (fun z => nomatch z) spec_law_joined (fun cdv A outer s H E Δ hr hK ha0 => ?_)
  have hu := hu_of hr.toRoom
  exact (dss_cons (ds_if (dt_cmp (sc_eq hr.units) (de_ixN 0 de_int (fun _ _ => rfl)) (de_tup da_nil) (nomark _)) (dss_one (ds_ret (de_tup (da_cons (de_ixN 0 de_int (fun _ _ => rfl)) (da_cons (de_op (do_add hK) (de_ixN 0 de_int (fun _ _ => rfl)) (de_ixN 1 de_int (fun _ _ => rfl))) (da_cons (de_ixN 1 de_int (fun _ _ => rfl)) da_nil)))))) dss_nil)
  (dss_cons (ds_asg (de_ix (de_ixN 0 de_int (fun _ _ => rfl)) (de_un do_neg de_int) (fun _ _ => rfl)) (dg_tup (n := 3) rfl (dgs_cons (dg_name 2 S.nd) (dgs_cons (dg_name 3 S.nd) (dgs_cons (dg_name 4 S.nd) dgs_nil)))))
  (dss_one (ds_ret (de_tup (da_cons (de_ixN 0 de_int (fun _ _ => rfl)) (da_cons (de_ixN 0 de_int (fun _ _ => rfl)) (da_cons (de_op (do_add hK) (de_op (do_add hK) (de_sl (de_ixN 0 de_int (fun _ _ => rfl)) do_none (do_some (de_un do_neg de_int))) (de_tup (da_cons (de_tup (da_cons (de_name 2) (da_cons (de_name 3) (da_cons (de_addN 4 hK (de_ixN 1 de_int (fun _ _ => rfl))) da_nil)))) da_nil))) (de_ixN 1 de_int (fun _ _ => rfl))) da_nil))))))))
abbrev n_law_end : List Str := ["web", "walk", "tie", "side", "number"]
abbrev p_law_end : List Str := ["web", "walk"]
theorem sc_law_end : FnScope n_law_end p_law_end (defScope s_law_end) := ⟨rfl, rfl, rfl, by decide +kernel, rfl, by decide +kernel, by decide +kernel⟩
theorem k_law_end {f : Addr} {fd : FuncData} (hKK : K = TabF.K) (hCN : ∀ a, TabF.C a = none) (F : FunD K "_law_end" "_law_end" (defArgs s_law_end) (defBody s_law_end) (defScope s_law_end) [] [] f fd) (hm : mg "_law_end" = some (.ref f)) (c_law_ends : CalD P w K mg base 1 "_law_ends" C_law_ends) : CalD P w K mg base 2 "_law_end" C_law_end := by
  have S := sc_law_end
  refine def_ok false F S hm (F.bindsN fun _ _ _ _ _ _ us hl => match us, hl with | [_, _], _ => rfl) w_law_end len_law_end (fun z => nomatch z) spec_law_end (fun cdv A outer s H E Δ hr hK ha0 => ?_)
  have hu := hu_of hr.toRoom
  exact (dss_cons (ds_if (dt_cmp (sc_eq hr.units) (de_ixN 1 de_int (fun _ _ => rfl)) (de_tup da_nil) (nomark _)) (dss_one (ds_ret (de_ixN 1 de_int (fun _ _ => rfl)))) dss_nil)
  (dss_cons (ds_asg (de_ix (de_ixN 1 de_int (fun _ _ => rfl)) (de_un do_neg de_int) (fun _ _ => rfl)) (dg_tup (n := 3) rfl (dgs_cons (dg_name 2 S.nd) (dgs_cons (dg_name 3 S.nd) (dgs_cons (dg_name 4 S.nd) dgs_nil)))))
  (dss_one (ds_ret (de_ix (de_callP c_law_ends hK (hr.mono (by decide)) (by rfl) (da_cons (de_name 0) (da_cons (de_name 2) (da_cons (de_name 3) da_nil)))) de_int (fun _ _ => rfl))))))
abbrev n_law_closed : List Str := ["m", "web", "room", "steps", "greatest", "out", "road", "back", "tie", "side"]
abbrev p_law_closed : List Str := ["m", "web", "room", "steps", "greatest"]
theorem sc_law_closed : FnScope n_law_closed p_law_closed (defScope s_law_closed) := ⟨rfl, rfl, rfl, by decide +kernel, rfl, by decide +kernel, by decide +kernel⟩
theorem k_law_closed {f : Addr} {fd : FuncData} (hKK : K = TabF.K) (hCN : ∀ a, TabF.C a = none) (F : FunD K "_law_closed" "_law_closed" (defArgs s_law_closed) (defBody s_law_closed) (defScope s_law_closed) [] [] f fd) (hm : mg "_law_closed" = some (.ref f)) (b_tuple : mg "tuple" = none) (c_law_end : CalD P w K mg base 2 "_law_end" C_law_end) (c_law_home : CalD P w K mg base 3 "_law_home" C_law_home) (c_law_joined : CalD P w K mg base 1 "_law_joined" C_law_joined) (c_law_turns : CalD P w K mg base 3 "_law_turns" C_law_turns) (c_law_walk : CalD P w K mg base 4 "_law_walk" C_law_walk) : CalD P w K mg base 5 "_law_closed" C_law_closed := by
  have S := sc_law_closed
  refine def_ok false F S hm (F.bindsN fun _ _ _ _ _ _ us hl => match us, hl with | [_, _, _, _, _], _ => rfl) w_law_closed len_law_closed (fun z => nomatch z) spec_law_closed (fun cdv A outer s H E Δ hr hK ha0 => ?_)
  have hu := hu_of hr.toRoom
  exact (dss_cons (ds_set 5 S.nd (de_callG c_law_walk hK (hr.mono (by decide)) (by rfl) (da_cons (de_name 0) (da_cons (de_name 1) (da_cons (de_name 2) (da_cons (de_name 3) (da_cons (de_name 4) da_nil)))))))
  (dss_cons (ds_set 6 S.nd (de_dixC (hs := fun _ _ => rfl) hr.units (de_callP c_law_home hK (hr.mono (by decide)) (by rfl) (da_cons (de_name 1) (da_cons (de_callP c_law_end hK (hr.mono (by decide)) (by rfl) (da_cons (de_name 1) (da_cons (de_name 5) da_nil))) da_nil))) (fun Δ e1 => (de_name 2))))
  (dss_cons (ds_set 7 S.nd (de_ct (cl_tup hK) (by rfl) b_tuple (by decide +kernel) (da_cons (de_lc (own := [("tie", 8), ("side", 9)]) rfl S.nd (di_l (de_name 6)) (blkOk_by (own := [("tie", 8), ("side", 9)]) (N := n_law_closed) (sc := defScope s_law_closed) (by decide +kernel)) (fun _ _ _ _ _ Δ _ => (dg_tup (n := 2) rfl (dgs_cons (dg_name 8 S.nd) (dgs_cons (dg_name 9 S.nd) dgs_nil)))) (fun _ _ _ _ _ Δ e0 => (dts_nil)) (fun _ _ _ _ _ Δ e2 => (de_tup (da_cons (de_name 8) (da_cons (de_name 9) (da_cons (de_callG c_law_turns (e2.trans hK) (hr.mono (by decide)) (by rfl) (da_cons (de_name 0) (da_cons (de_name 4) da_nil))) da_nil)))))) da_nil)))
  (dss_one (ds_ret (de_callP c_law_joined hK (hr.mono (by decide)) (by rfl) (da_cons (de_name 5) (da_cons (de_tup (da_cons (de_callP c_law_end hK (hr.mono (by decide)) (by rfl) (da_cons (de_name 1) (da_cons (de_name 5) da_nil))) (da_cons de_int (da_cons (de_name 7) da_nil)))) da_nil))))))))
abbrev ngo_along : List Str := ["web", "walk", "room", "turns", "steps", "kept", "moves", "made", "tie", "side", "following", "_", "ahead", "behind", "left", "many", "numbers", "plain"]
abbrev pgo_along : List Str := ["web", "walk"]
theorem scgo_along : FnScope ngo_along pgo_along (defScope sgo_along) := ⟨rfl, rfl, rfl, by decide +kernel, rfl, by decide +kernel, by decide +kernel⟩
theorem kgo_along {f : Addr} {fd : FuncData} (hKK : K = TabF.K) (hCN : ∀ a, TabF.C a = none) (F : FunD K "go_along" "go_along" (defArgs sgo_along) (defBody sgo_along) (defScope sgo_along) [] [] f fd) (hm : mg "go_along" = some (.ref f)) (b_abs : mg "abs" = none) (b_len : mg "len" = none) (b_tuple : mg "tuple" = none) (cends_of : CalD P w K mg base 1 "ends_of" Cends_of) (cwalk_with : CalD P w K mg base 1 "walk_with" Cwalk_with) : CalD P w K mg base 2 "go_along" Cgo_along := by
  have S := scgo_along
  refine def_ok false F S hm (F.bindsN fun _ _ _ _ _ _ us hl => match us, hl with | [_, _], _ => rfl) wgo_along lengo_along (fun z => nomatch z) specgo_along (fun cdv A outer s H E Δ hr hK ha0 => ?_)
  have hu := hu_of hr.toRoom
  exact (dss_cons (ds_asg (de_name 1) (dg_tup (n := 3) rfl (dgs_cons (dg_name 2 S.nd) (dgs_cons (dg_name 3 S.nd) (dgs_cons (dg_name 4 S.nd) dgs_nil)))))
  (dss_cons (ds_set 5 S.nd (de_lst da_nil))
  (dss_cons (ds_set 6 S.nd (de_lst da_nil))
  (dss_cons (ds_set 7 S.nd (de_lst da_nil))
  (dss_cons (ds_for PassesOwn.never rfl (di_t (de_name 4)) (dg_tup (n := 3) rfl (dgs_cons (dg_name 8 S.nd) (dgs_cons (dg_name 9 S.nd) (dgs_cons (dg_name 10 S.nd) dgs_nil))))
  (dss_cons (ds_asg (de_callP cends_of hK (hr.mono (by decide)) (by rfl) (da_cons (de_name 0) (da_cons (de_name 8) (da_cons (de_name 9) da_nil)))) (dg_tup (n := 4) rfl (dgs_cons (dg_name 11 S.nd) (dgs_cons (dg_name 11 S.nd) (dgs_cons (dg_name 12 S.nd) (dgs_cons (dg_name 13 S.nd) dgs_nil))))))
  (dss_cons (ds_set 14 S.nd (de_op do_mod' (de_name 3) (de_cb cl_abs (by rfl) b_abs (by decide +kernel) (da_cons (de_name 12) da_nil))))
  (dss_cons (ds_set 15 S.nd (de_op do_fdiv' (de_op do_sub' (de_name 3) (de_name 14)) (de_name 12)))
  (dss_cons (ds_set 3 S.nd (de_op (do_add hK) (de_op do_mul' (de_name 13) (de_name 15)) (de_name 10)))
  (dss_cons (ds_if (dt_cmpNL 15 (sc_ne hr.units) de_int (nomark _)) (dss_cons (ds_expr (de_app 6 (de_tup (da_cons de_str (da_cons (de_op (do_add hK) (de_lenN 5 rfl (by rfl) b_len (by decide +kernel)) de_int) (da_cons (de_name 15) da_nil))))))
  (dss_one (ds_expr (de_app 7 (de_name 3))))) dss_nil)
  (dss_one (ds_if (PW.pt (dw_and (dt_cmpNL 14 (sc_eq hr.units) de_int (nomark _)) (dw_and (dt_truN 5) (dw_and1 (dt_cmp (sc_eq hr.units) (de_sl (de_ixN 5 (de_un do_neg de_int) (fun _ _ => rfl)) do_none (do_some de_int)) (de_tup (da_cons (de_name 8) (da_cons (de_un do_neg (de_name 9)) da_nil))) (nomark _)))))) (dss_cons (ds_expr (de_app 6 (de_tup (da_cons de_str (da_cons (de_lenN 5 rfl (by rfl) b_len (by decide +kernel)) da_nil)))))
  (dss_cons (ds_aug 3 S.nd (de_ix (de_pop 5) de_int (fun _ _ => rfl)) di_add')
  (dss_one (ds_expr (de_app 7 (de_name 3)))))) (dss_one (ds_expr (de_app 5 (de_tup (da_cons (de_name 8) (da_cons (de_name 9) (da_cons (de_name 14) da_nil)))))))))))))))
  (dss_cons (ds_set 16 S.nd (de_op (do_add hK) (de_lc (own := [("_", 11), ("_", 11), ("left", 14)]) rfl S.nd (di_l (de_name 5)) (blkOk_by (own := [("_", 11), ("_", 11), ("left", 14)]) (N := ngo_along) (sc := defScope sgo_along) (by decide +kernel)) (fun _ _ _ _ _ Δ _ => (dg_tup (n := 3) rfl (dgs_cons (dg_name 11 S.nd) (dgs_cons (dg_name 11 S.nd) (dgs_cons (dg_name 14 S.nd) dgs_nil))))) (fun _ _ _ _ _ Δ e0 => (dts_nil)) (fun _ _ _ _ _ Δ e1 => (de_name 14))) (de_lst (da_cons (de_name 3) da_nil))))
  (dss_cons (ds_set 17 S.nd (de_callP cwalk_with hK (hr.mono (by decide)) (by rfl) (da_cons (de_name 2) (da_cons (de_name 16) (da_cons (de_lc (own := [("tie", 8), ("side", 9), ("_", 11)]) rfl S.nd (di_l (de_name 5)) (blkOk_by (own := [("tie", 8), ("side", 9), ("_", 11)]) (N := ngo_along) (sc := defScope sgo_along) (by decide +kernel)) (fun _ _ _ _ _ Δ _ => (dg_tup (n := 3) rfl (dgs_cons (dg_name 8 S.nd) (dgs_cons (dg_name 9 S.nd) (dgs_cons (dg_name 11 S.nd) dgs_nil))))) (fun _ _ _ _ _ Δ e0 => (dts_nil)) (fun _ _ _ _ _ Δ e2 => (de_tup (da_cons (de_name 8) (da_cons (de_name 9) da_nil))))) da_nil)))))
  (dss_one (ds_ret (de_tup (da_cons (de_name 17) (da_cons (de_ct (cl_tup hK) (by rfl) b_tuple (by decide +kernel) (da_cons (de_name 6) da_nil)) (da_cons (de_name 7) da_nil)))))))))))))
abbrev nplain_of_any_size : List Str := ["web", "walk"]
abbrev pplain_of_any_size : List Str := ["web", "walk"]
theorem scplain_of_any_size : FnScope nplain_of_any_size pplain_of_any_size (defScope splain_of_any_size) := ⟨rfl, rfl, rfl, by decide +kernel, rfl, by decide +kernel, by decide +kernel⟩
theorem kplain_of_any_size {f : Addr} {fd : FuncData} (hKK : K = TabF.K) (hCN : ∀ a, TabF.C a = none) (F : FunD K "plain_of_any_size" "plain_of_any_size" (defArgs splain_of_any_size) (defBody splain_of_any_size) (defScope splain_of_any_size) [] [] f fd) (hm : mg "plain_of_any_size" = some (.ref f)) (cgo_along : CalD P w K mg base 2 "go_along" Cgo_along) : CalD P w K mg base 3 "plain_of_any_size" Cplain_of_any_size := by
  have S := scplain_of_any_size
  refine def_ok false F S hm (F.bindsN fun _ _ _ _ _ _ us hl => match us, hl with | [_, _], _ => rfl) wplain_of_any_size lenplain_of_any_size (fun z => nomatch z) specplain_of_any_size (fun cdv A outer s H E Δ hr hK ha0 => ?_)
  have hu := hu_of hr.toRoom
  exact (dss_one (ds_ret (de_ix (de_callP cgo_along hK (hr.mono (by decide)) (by rfl) (da_cons (de_name 0) (da_cons (de_name 1) da_nil))) de_int (fun _ _ => rfl))))
abbrev nare_equal : List Str := ["web", "first", "second"]
abbrev pare_equal : List Str := ["web", "first", "second"]
theorem scare_equal : FnScope nare_equal pare_equal (defScope sare_equal) := ⟨rfl, rfl, rfl, by decide +kernel, rfl, by decide +kernel, by decide +kernel⟩
theorem kare_equal {f : Addr} {fd : FuncData} (hKK : K = TabF.K) (hCN : ∀ a, TabF.C a = none) (F : FunD K "are_equal" "are_equal" (defArgs sare_equal) (defBody sare_equal) (defScope sare_equal) [] [] f fd) (hm : mg "are_equal" = some (.ref f)) (cplain_of_any_size : CalD P w K mg base 3 "plain_of_any_size" Cplain_of_any_size) : CalD P w K mg base 4 "are_equal" Care_equal := by
  have S := scare_equal
  refine def_ok false F S hm (F.bindsN fun _ _ _ _ _ _ us hl => match us, hl with | [_, _, _], _ => rfl) ware_equal lenare_equal (fun z => nomatch z) specare_equal (fun cdv A outer s H E Δ hr hK ha0 => ?_)
  have hu := hu_of hr.toRoom
  exact (dss_one (ds_ret (de_cmp' (sc_eq hr.units) (de_callP cplain_of_any_size hK (hr.mono (by decide)) (by rfl) (da_cons (de_name 0) (da_cons (de_name 1) da_nil))) (de_callP cplain_of_any_size hK (hr.mono (by decide)) (by rfl) (da_cons (de_name 0) (da_cons (de_name 2) da_nil))) (nomark _))))
abbrev n_law_bare : List Str := ["room", "crossings", "tie", "side"]
abbrev p_law_bare : List Str := ["room", "crossings"]
theorem sc_law_bare : FnScope n_law_bare p_law_bare (defScope s_law_bare) := ⟨rfl, rfl, rfl, by decide +kernel, rfl, by decide +kernel, by decide +kernel⟩
theorem k_law_bare {f : Addr} {fd : FuncData} (hKK : K = TabF.K) (hCN : ∀ a, TabF.C a = none) (F : FunD K "_law_bare" "_law_bare" (defArgs s_law_bare) (defBody s_law_bare) (defScope s_law_bare) [] [] f fd) (hm : mg "_law_bare" = some (.ref f)) (b_tuple : mg "tuple" = none) : CalD P w K mg base 1 "_law_bare" C_law_bare := by
  have S := sc_law_bare
  refine def_ok false F S hm (F.bindsN fun _ _ _ _ _ _ us hl => match us, hl with | [_, _], _ => rfl) w_law_bare len_law_bare (fun z => nomatch z) spec_law_bare (fun cdv A outer s H E Δ hr hK ha0 => ?_)
  have hu := hu_of hr.toRoom
  exact (dss_one (ds_ret (de_tup (da_cons (de_name 0) (da_cons de_int (da_cons (de_ct (cl_tup hK) (by rfl) b_tuple (by decide +kernel) (da_cons (de_lc (own := [("tie", 2), ("side", 3)]) rfl S.nd (di_l (de_name 1)) (blkOk_by (own := [("tie", 2), ("side", 3)]) (N := n_law_bare) (sc := defScope s_law_bare) (by decide +kernel)) (fun _ _ _ _ _ Δ _ => (dg_tup (n := 2) rfl (dgs_cons (dg_name 2 S.nd) (dgs_cons (dg_name 3 S.nd) dgs_nil)))) (fun _ _ _ _ _ Δ e0 => (dts_nil)) (fun _ _ _ _ _ Δ e1 => (de_tup (da_cons (de_name 2) (da_cons (de_name 3) (da_cons de_int da_nil)))))) da_nil)) da_nil))))))
abbrev n_law_plain : List Str := ["web", "walk", "kept", "number", "tie", "side", "turns", "ends", "rest", "many", "numbers", "steps", "k", "row"]
abbrev p_law_plain : List Str := ["web", "walk"]
theorem sc_law_plain : FnScope n_law_plain p_law_plain (defScope s_law_plain) := ⟨rfl, rfl, rfl, by decide +kernel, rfl, by decide +kernel, by decide +kernel⟩
theorem k_law_plain {f : Addr} {fd : FuncData} (hKK : K = TabF.K) (hCN : ∀ a, TabF.C a = none) (F : FunD K "_law_plain" "_law_plain" (defArgs s_law_plain) (defBody s_law_plain) (defScope s_law_plain) [] [] f fd) (hm : mg "_law_plain" = some (.ref f)) (b_abs : mg "abs" = none) (b_enumerate : mg "enumerate" = none) (b_int : mg "int" = none) (b_tuple : mg "tuple" = none) (c_law_ends : CalD P w K mg base 1 "_law_ends" C_law_ends) : CalD P w K mg base 2 "_law_plain" C_law_plain := by
  have S := sc_law_plain
  refine def_ok false F S hm (F.bindsN fun _ _ _ _ _ _ us hl => match us, hl with | [_, _], _ => rfl) w_law_plain len_law_plain (fun z => nomatch z) spec_law_plain (fun cdv A outer s H E Δ hr hK ha0 => ?_)
  have hu := hu_of hr.toRoom
  exact (dss_cons (ds_par2 2 3 rfl S.nd (de_lst da_nil) (fun Δ e1 => (de_ixN 1 de_int (fun _ _ => rfl))) (by rfl))
  (dss_cons (ds_for PassesOwn.never rfl (di_t (de_ixN 1 de_int (fun _ _ => rfl))) (dg_tup (n := 3) rfl (dgs_cons (dg_name 4 S.nd) (dgs_cons (dg_name 5 S.nd) (dgs_cons (dg_name 6 S.nd) dgs_nil))))
  (dss_cons (ds_set 7 S.nd (de_callP c_law_ends hK (hr.mono (by decide)) (by rfl) (da_cons (de_name 0) (da_cons (de_name 4) (da_cons (de_name 5) da_nil)))))
  (dss_cons (ds_set 8 S.nd (de_op do_mod' (de_ct cl_int (by rfl) b_int (by decide +kernel) (da_cons (de_name 3) da_nil)) (de_cb cl_abs (by rfl) b_abs (by decide +kernel) (da_cons (de_ixN 7 de_int (fun _ _ => rfl)) da_nil))))
  (dss_cons (ds_set 9 S.nd (de_op do_fdiv' (de_op do_sub' (de_name 3) (de_name 8)) (de_ixN 7 de_int (fun _ _ => rfl))))
  (dss_one (ds_if (PW.pt (dw_and (dt_cmpNL 8 (sc_eq hr.units) de_int (nomark _)) (dw_and (dt_cmpNL 2 (sc_ne hr.units) (de_lst da_nil) (nomark _)) (dw_and1 (dt_cmp (sc_eq hr.units) (de_sl (de_ixN 2 (de_un do_neg de_int) (fun _ _ => rfl)) (do_some de_int) do_none) (de_tup (da_cons (de_name 4) (da_cons (de_un do_neg (de_name 5)) da_nil))) (nomark _)))))) (dss_one (ds_set 3 S.nd (de_op (do_add hK) (de_op (do_add hK) (de_ix (de_pop 2) de_int (fun _ _ => rfl)) (de_op do_mul' (de_ixN 7 de_int (fun _ _ => rfl)) (de_name 9))) (de_name 6)))) (dss_cons (ds_expr (de_app 2 (de_tup (da_cons (de_name 8) (da_cons (de_name 4) (da_cons (de_name 5) da_nil))))))
  (dss_one (ds_set 3 S.nd (de_op (do_add hK) (de_op do_mul' (de_ixN 7 de_int (fun _ _ => rfl)) (de_name 9)) (de_name 6)))))))))))
  (dss_cons (ds_set 10 S.nd (de_op (do_add hK) (de_lc (own := [("row", 13)]) rfl S.nd (di_l (de_name 2)) (blkOk_by (own := [("row", 13)]) (N := n_law_plain) (sc := defScope s_law_plain) (by decide +kernel)) (fun _ _ _ _ _ Δ _ => (dg_name 13 S.nd)) (fun _ _ _ _ _ Δ e0 => (dts_nil)) (fun _ _ _ _ _ Δ e2 => (de_ixN 13 de_int (fun _ _ => rfl)))) (de_lst (da_cons (de_name 3) da_nil))))
  (dss_cons (ds_setLc (own := [("k", 12), ("row", 13)]) 11 rfl rfl rfl (sw_true rfl rfl rfl (by decide +kernel)) S.nd (di_en hK (by rfl) b_enumerate (da_cons (de_name 2) da_nil)) (blkOk_by (own := [("k", 12), ("row", 13)]) (N := n_law_plain) (sc := defScope s_law_plain) (by decide +kernel)) (fun _ _ _ _ _ Δ _ => (dg_tup (n := 2) rfl (dgs_cons (dg_name 12 S.nd) (dgs_cons (dg_name 13 S.nd) dgs_nil)))) (fun _ _ _ _ _ Δ e0 => (dts_nil)) (fun _ _ _ _ _ Δ e3 => (de_tup (da_cons (de_ixN 13 de_int (fun _ _ => rfl)) (da_cons (de_ixN 13 de_int (fun _ _ => rfl)) (da_cons (de_ixN 10 (de_addN 12 (e3.trans hK) de_int) (fun _ _ => rfl)) da_nil))))))
  (dss_one (ds_ret (de_tup (da_cons (de_ixN 1 de_int (fun _ _ => rfl)) (da_cons (de_ixN 10 de_int (fun _ _ => rfl)) (da_cons (de_ct (cl_tup hK) (by rfl) b_tuple (by decide +kernel) (da_cons (de_name 11) da_nil)) da_nil))))))))))
abbrev n_law_back : List Str := ["web", "walk", "turns", "found", "k", "tie", "side", "number", "step"]
abbrev p_law_back : List Str := ["web", "walk"]
theorem sc_law_back : FnScope n_law_back p_law_back (defScope s_law_back) := ⟨rfl, rfl, rfl, by decide +kernel, rfl, by decide +kernel, by decide +kernel⟩
theorem k_law_back {f : Addr} {fd : FuncData} (hKK : K = TabF.K) (hCN : ∀ a, TabF.C a = none) (F : FunD K "_law_back" "_law_back" (defArgs s_law_back) (defBody s_law_back) (defScope s_law_back) [] [] f fd) (hm : mg "_law_back" = some (.ref f)) (b_len : mg "len" = none) (b_tuple : mg "tuple" = none) (c_law_end : CalD P w K mg base 2 "_law_end" C_law_end) : CalD P w K mg base 3 "_law_back" C_law_back := by
  have S := sc_law_back
  refine def_ok false F S hm (F.bindsN fun _ _ _ _ _ _ us hl => match us, hl with | [_, _], _ => rfl) w_law_back len_law_back (fun z => nomatch z) spec_law_back (fun cdv A outer s H E Δ hr hK ha0 => ?_)
  have hu := hu_of hr.toRoom
  exact (dss_cons (ds_set 2 S.nd (de_op (do_add hK) (de_lst (da_cons (de_ixN 1 de_int (fun _ _ => rfl)) da_nil)) (de_lc (own := [("step", 8)]) rfl S.nd (di_t (de_ixN 1 de_int (fun _ _ => rfl))) (blkOk_by (own := [("step", 8)]) (N := n_law_back) (sc := defScope s_law_back) (by decide +kernel)) (fun _ _ _ _ _ Δ _ => (dg_name 8 S.nd)) (fun _ _ _ _ _ Δ e0 => (dts_nil)) (fun _ _ _ _ _ Δ e1 => (de_ixN 8 de_int (fun _ _ => rfl))))))
  (dss_cons (ds_par2 3 4 rfl S.nd (de_lst da_nil) (fun Δ e2 => (de_cb (cl_len (e2.trans hK)) (by rfl) b_len (by decide +kernel) (da_cons (de_ixN 1 de_int (fun _ _ => rfl)) da_nil))) (by rfl))
  (dss_cons (ds_for PassesOwn.never rfl (di_t (de_revT (de_ixN 1 de_int (fun _ _ => rfl)) hK)) (dg_tup (n := 3) rfl (dgs_cons (dg_name 5 S.nd) (dgs_cons (dg_name 6 S.nd) (dgs_cons (dg_name 7 S.nd) dgs_nil))))
  (dss_cons (ds_set 4 S.nd (de_op do_sub' (de_name 4) de_int))
  (dss_one (ds_expr (de_app 3 (de_tup (da_cons (de_name 5) (da_cons (de_un do_neg (de_name 6)) (da_cons (de_un do_neg (de_ixN 2 (de_name 4) (fun _ _ => rfl))) da_nil)))))))))
  (dss_one (ds_ret (de_tup (da_cons (de_callP c_law_end hK (hr.mono (by decide)) (by rfl) (da_cons (de_name 0) (da_cons (de_name 1) da_nil))) (da_cons (de_un do_neg (de_ixN 2 (de_un do_neg de_int) (fun _ _ => rfl))) (da_cons (de_ct (cl_tup hK) (by rfl) b_tuple (by decide +kernel) (da_cons (de_name 3) da_nil)) da_nil)))))))))
abbrev n_law_power : List Str := ["web", "walk", "count", "one", "made", "turn"]
abbrev p_law_power : List Str := ["web", "walk", "count"]
theorem sc_law_power : FnScope n_law_power p_law_power (defScope s_law_power) := ⟨rfl, rfl, rfl, by decide +kernel, rfl, by decide +kernel, by decide +kernel⟩
theorem k_law_power {f : Addr} {fd : FuncData} (hKK : K = TabF.K) (hCN : ∀ a, TabF.C a = none) (F : FunD K "_law_power" "_law_power" (defArgs s_law_power) (defBody s_law_power) (defScope s_law_power) [] [] f fd) (hm : mg "_law_power" = some (.ref f)) (b_abs : mg "abs" = none) (b_range : mg "range" = none) (c_law_back : CalD P w K mg base 3 "_law_back" C_law_back) (c_law_joined : CalD P w K mg base 1 "_law_joined" C_law_joined) (c_law_plain : CalD P w K mg base 2 "_law_plain" C_law_plain) : CalD P w K mg base 4 "_law_power" C_law_power := by
  have S := sc_law_power
  refine def_ok false F S hm (F.bindsN fun _ _ _ _ _ _ us hl => match us, hl with | [_, _, _], _ => rfl) w_law_power len_law_power (fun z => nomatch z) spec_law_power (fun cdv A outer s H E Δ hr hK ha0 => ?_)
  have hu := hu_of hr.toRoom
  exact (dss_cons (ds_par2 3 4 rfl S.nd (de_if (dt_cmpNL 2 sc_ge de_int (nomark _)) (de_name 1) (de_callP c_law_back hK (hr.mono (by decide)) (by rfl) (da_cons (de_name 0) (da_cons (de_name 1) da_nil)))) (fun Δ e1 => (de_tup (da_cons (de_ixN 1 de_int (fun _ _ => rfl)) (da_cons de_int (da_cons (de_tup da_nil) da_nil))))) (by rfl))
  (dss_cons (ds_for PassesOwn.never rfl (di_r1 (by rfl) b_range (da_cons (de_cb cl_abs (by rfl) b_abs (by decide +kernel) (da_cons (de_name 2) da_nil)) da_nil)) (dg_name 5 S.nd)
  (dss_one (ds_set 4 S.nd (de_callP c_law_plain hK (hr.mono (by decide)) (by rfl) (da_cons (de_name 0) (da_cons (de_callP c_law_joined hK (hr.mono (by decide)) (by rfl) (da_cons (de_name 4) (da_cons (de_name 3) da_nil))) da_nil))))))
  (dss_one (ds_ret (de_name 4)))))
abbrev n_law_product : List Str := ["web", "room", "walk", "told", "ways", "tree", "tie", "rings", "order", "made", "here", "side", "turns", "ring", "there"]
abbrev p_law_product : List Str := ["web", "room", "walk", "told"]
theorem sc_law_product : FnScope n_law_product p_law_product (defScope s_law_product) := ⟨rfl, rfl, rfl, by decide +kernel, rfl, by decide +kernel, by decide +kernel⟩
theorem k_law_product {f : Addr} {fd : FuncData} (hKK : K = TabF.K) (hCN : ∀ a, TabF.C a = none) (F : FunD K "_law_product" "_law_product" (defArgs s_law_product) (defBody s_law_product) (defScope s_law_product) [] [] f fd) (hm : mg "_law_product" = some (.ref f)) (b_len : mg "len" = none) (b_list : mg "list" = none) (b_range : mg "range" = none) (c_law_back : CalD P w K mg base 3 "_law_back" C_law_back) (c_law_ends : CalD P w K mg base 1 "_law_ends" C_law_ends) (c_law_home : CalD P w K mg base 3 "_law_home" C_law_home) (c_law_joined : CalD P w K mg base 1 "_law_joined" C_law_joined) (c_law_plain : CalD P w K mg base 2 "_law_plain" C_law_plain) (c_law_power : CalD P w K mg base 4 "_law_power" C_law_power) : CalD P w K mg base 5 "_law_product" C_law_product := by
  have S := sc_law_product
  refine def_ok false F S hm (F.bindsN fun _ _ _ _ _ _ us hl => match us, hl with | [_, _, _, _], _ => rfl) w_law_product len_law_product (fun z => nomatch z) spec_law_product (fun cdv A outer s H E Δ hr hK ha0 => ?_)
  have hu := hu_of hr.toRoom
  exact (dss_cons (ds_set 4 S.nd (de_frzC (de_callP c_law_home hK (hr.mono (by decide)) (by rfl) (da_cons (de_name 0) (da_cons (de_name 1) da_nil)))))
  (dss_cons (ds_set 5 S.nd (de_lc (own := [("there", 14)]) rfl S.nd (di_dk (de_name 4)) (blkOk_by (own := [("there", 14)]) (N := n_law_product) (sc := defScope s_law_product) (by decide +kernel)) (fun _ _ _ _ _ Δ _ => (dg_name 14 S.nd)) (fun _ _ _ _ _ Δ e1 => (pts_one (dt_cmp (sc_ne hr.units) (de_dixF (hs := fun _ _ => rfl) 4 hr.units (de_name 14)) (de_lst da_nil) (nomark _)))) (fun _ _ _ _ _ Δ e2 => (de_ix (de_ix (de_dixF (hs := fun _ _ => rfl) 4 hr.units (de_name 14)) (de_un do_neg de_int) (fun _ _ => rfl)) de_int (fun _ _ => rfl)))))
  (dss_cons (ds_setLc (own := [("tie", 6)]) 7 rfl rfl rfl (sw_true rfl rfl rfl (by decide +kernel)) S.nd (di_r1 (by rfl) b_range (da_cons (de_cb (cl_len hK) (by rfl) b_len (by decide +kernel) (da_cons (de_ixN 0 de_int (fun _ _ => rfl)) da_nil)) da_nil)) (blkOk_by (own := [("tie", 6)]) (N := n_law_product) (sc := defScope s_law_product) (by decide +kernel)) (fun _ _ _ _ _ Δ _ => (dg_name 6 S.nd)) (fun _ _ _ _ _ Δ e3 => (pts_one (PW.pt (dw_and (dt_dinF 4 hr.units (de_ix (de_ix (de_ixN 0 de_int (fun _ _ => rfl)) (de_name 6) (fun _ _ => rfl)) de_int (fun _ _ => rfl))) (dw_and1 (dt_cmpNR 5 sc_notin (de_name 6) (by rfl))))))) (fun _ _ _ _ _ Δ e4 => (de_name 6)))
  (dss_cons (ds_set 8 S.nd (de_lstF rfl (by rfl) b_list (by decide +kernel) (de_name 4)))
  (dss_cons (ds_par2 9 10 rfl S.nd (de_callP c_law_power hK (hr.mono (by decide)) (by rfl) (da_cons (de_name 0) (da_cons (de_ixN 3 (de_idx 8 (de_name 1)) (fun _ _ => rfl)) (da_cons (de_ixN 2 de_int (fun _ _ => rfl)) da_nil)))) (fun Δ e5 => (de_name 1)) (by rfl))
  (dss_cons (ds_for PassesOwn.never rfl (di_t (de_ixN 2 de_int (fun _ _ => rfl))) (dg_tup (n := 3) rfl (dgs_cons (dg_name 6 S.nd) (dgs_cons (dg_name 11 S.nd) (dgs_cons (dg_name 12 S.nd) dgs_nil))))
  (dss_cons (ds_if (dt_cmpNR 5 sc_notin (de_name 6) (by rfl)) (dss_cons (ds_set 13 S.nd (de_ixN 3 (de_op (do_add hK) (de_lenN 8 rfl (by rfl) b_len (by decide +kernel)) (de_idx 7 (de_name 6))) (fun _ _ => rfl)))
  (dss_one (ds_set 9 S.nd (de_callP c_law_plain hK (hr.mono (by decide)) (by rfl) (da_cons (de_name 0) (da_cons (de_callP c_law_joined hK (hr.mono (by decide)) (by rfl) (da_cons (de_name 9) (da_cons (de_if (dt_cmpNL 11 (sc_eq hr.units) de_int (nomark _)) (de_name 13) (de_callP c_law_back hK (hr.mono (by decide)) (by rfl) (da_cons (de_name 0) (da_cons (de_name 13) da_nil)))) da_nil))) da_nil)))))) dss_nil)
  (dss_cons (ds_set 10 S.nd (de_ix (de_callP c_law_ends hK (hr.mono (by decide)) (by rfl) (da_cons (de_name 0) (da_cons (de_name 6) (da_cons (de_name 11) da_nil)))) de_int (fun _ _ => rfl)))
  (dss_one (ds_set 9 S.nd (de_callP c_law_plain hK (hr.mono (by decide)) (by rfl) (da_cons (de_name 0) (da_cons (de_callP c_law_joined hK (hr.mono (by decide)) (by rfl) (da_cons (de_name 9) (da_cons (de_callP c_law_power hK (hr.mono (by decide)) (by rfl) (da_cons (de_name 0) (da_cons (de_ixN 3 (de_idx 8 (de_name 10)) (fun _ _ => rfl)) (da_cons (de_name 12) da_nil)))) da_nil))) da_nil))))))))
  (dss_one (ds_ret (de_name 9)))))))))
abbrev n_law_rings : List Str := ["web", "room", "ways", "found", "tree", "tie", "v", "w", "p", "q", "ahead", "there"]
abbrev p_law_rings : List Str := ["web", "room"]
theorem sc_law_rings : FnScope n_law_rings p_law_rings (defScope s_law_rings) := ⟨rfl, rfl, rfl, by decide +kernel, rfl, by decide +kernel, by decide +kernel⟩
theorem k_law_rings {f : Addr} {fd : FuncData} (hKK : K = TabF.K) (hCN : ∀ a, TabF.C a = none) (F : FunD K "_law_rings" "_law_rings" (defArgs s_law_rings) (defBody s_law_rings) (defScope s_law_rings) [] [] f fd) (hm : mg "_law_rings" = some (.ref f)) (b_enumerate : mg "enumerate" = none) (c_law_back : CalD P w K mg base 3 "_law_back" C_law_back) (c_law_bare : CalD P w K mg base 1 "_law_bare" C_law_bare) (c_law_home : CalD P w K mg base 3 "_law_home" C_law_home) (c_law_joined : CalD P w K mg base 1 "_law_joined" C_law_joined) : CalD P w K mg base 4 "_law_rings" C_law_rings := by
  have S := sc_law_rings
  refine def_ok false F S hm (F.bindsN fun _ _ _ _ _ _ us hl => match us, hl with | [_, _], _ => rfl) w_law_rings len_law_rings (fun z => nomatch z) spec_law_rings (fun cdv A outer s H E Δ hr hK ha0 => ?_)
  have hu := hu_of hr.toRoom
  exact (dss_cons (ds_par2c 2 3 rfl S.nd (de_frzC (de_callP c_law_home hK (hr.mono (by decide)) (by rfl) (da_cons (de_name 0) (da_cons (de_name 1) da_nil)))) (fun Δ e1 => (de_lst da_nil)))
  (dss_cons (ds_setLc (own := [("there", 11)]) 4 rfl rfl rfl (sw_true rfl rfl rfl (by decide +kernel)) S.nd (di_dk (de_name 2)) (blkOk_by (own := [("there", 11)]) (N := n_law_rings) (sc := defScope s_law_rings) (by decide +kernel)) (fun _ _ _ _ _ Δ _ => (dg_name 11 S.nd)) (fun _ _ _ _ _ Δ e2 => (pts_one (dt_cmp (sc_ne hr.units) (de_dixF (hs := fun _ _ => rfl) 2 hr.units (de_name 11)) (de_lst da_nil) (nomark _)))) (fun _ _ _ _ _ Δ e3 => (de_ix (de_ix (de_dixF (hs := fun _ _ => rfl) 2 hr.units (de_name 11)) (de_un do_neg de_int) (fun _ _ => rfl)) de_int (fun _ _ => rfl))))
  (dss_cons (ds_for PassesOwn.never rfl (di_enT hK (by rfl) b_enumerate (da_cons (de_ixN 0 de_int (fun _ _ => rfl)) da_nil)) (dg_tup (n := 2) rfl (dgs_cons (dg_name 5 S.nd) (dgs_cons (dg_tup (n := 4) rfl (dgs_cons (dg_name 6 S.nd) (dgs_cons (dg_name 7 S.nd) (dgs_cons (dg_name 8 S.nd) (dgs_cons (dg_name 9 S.nd) dgs_nil))))) dgs_nil)))
  (dss_one (ds_if (PW.pt (dw_and (dt_dinF 2 hr.units (de_name 6)) (dw_and1 (dt_cmpNR 4 sc_notin (de_name 5) (by rfl))))) (dss_cons (ds_set 10 S.nd (de_callP c_law_joined hK (hr.mono (by decide)) (by rfl) (da_cons (de_callP c_law_bare hK (hr.mono (by decide)) (by rfl) (da_cons (de_name 1) (da_cons (de_dixF (hs := fun _ _ => rfl) 2 hr.units (de_name 6)) da_nil))) (da_cons (de_tup (da_cons (de_name 6) (da_cons de_int (da_cons (de_tup (da_cons (de_tup (da_cons (de_name 5) (da_cons de_int (da_cons de_int da_nil)))) da_nil)) da_nil)))) da_nil))))
  (dss_one (ds_expr (de_app 3 (de_callP c_law_joined hK (hr.mono (by decide)) (by rfl) (da_cons (de_name 10) (da_cons (de_callP c_law_back hK (hr.mono (by decide)) (by rfl) (da_cons (de_name 0) (da_cons (de_callP c_law_bare hK (hr.mono (by decide)) (by rfl) (da_cons (de_name 1) (da_cons (de_dixF (hs := fun _ _ => rfl) 2 hr.units (de_name 7)) da_nil))) da_nil))) da_nil))))))) dss_nil)))
  (dss_one (ds_ret (de_name 3))))))
abbrev n_law_sources : List Str := ["web", "room", "ways", "found", "there", "way"]
abbrev p_law_sources : List Str := ["web", "room"]
theorem sc_law_sources : FnScope n_law_sources p_law_sources (defScope s_law_sources) := ⟨rfl, rfl, rfl, by decide +kernel, rfl, by decide +kernel, by decide +kernel⟩
theorem k_law_sources {f : Addr} {fd : FuncData} (hKK : K = TabF.K) (hCN : ∀ a, TabF.C a = none) (F : FunD K "_law_sources" "_law_sources" (defArgs s_law_sources) (defBody s_law_sources) (defScope s_law_sources) [] [] f fd) (hm : mg "_law_sources" = some (.ref f)) (c_law_back : CalD P w K mg base 3 "_law_back" C_law_back) (c_law_bare : CalD P w K mg base 1 "_law_bare" C_law_bare) (c_law_home : CalD P w K mg base 3 "_law_home" C_law_home) (c_law_joined : CalD P w K mg base 1 "_law_joined" C_law_joined) (c_law_rings : CalD P w K mg base 4 "_law_rings" C_law_rings) : CalD P w K mg base 5 "_law_sources" C_law_sources := by
  have S := sc_law_sources
  refine def_ok false F S hm (F.bindsN fun _ _ _ _ _ _ us hl => match us, hl with | [_, _], _ => rfl) w_law_sources len_law_sources (fun z => nomatch z) spec_law_sources (fun cdv A outer s H E Δ hr hK ha0 => ?_)
  have hu := hu_of hr.toRoom
  exact (dss_cons (ds_par2 2 3 rfl S.nd (de_frzC (de_callP c_law_home hK (hr.mono (by decide)) (by rfl) (da_cons (de_name 0) (da_cons (de_name 1) da_nil)))) (fun Δ e1 => (de_lst da_nil)) (by rfl))
  (dss_cons (ds_for PassesOwn.never rfl (di_dk (de_name 2)) (dg_name 4 S.nd)
  (dss_cons (ds_set 5 S.nd (de_callP c_law_bare hK (hr.mono (by decide)) (by rfl) (da_cons (de_name 1) (da_cons (de_dixF (hs := fun _ _ => rfl) 2 hr.units (de_name 4)) da_nil))))
  (dss_one (ds_expr (de_app 3 (de_callP c_law_joined hK (hr.mono (by decide)) (by rfl) (da_cons (de_callP c_law_joined hK (hr.mono (by decide)) (by rfl) (da_cons (de_name 5) (da_cons (de_tup (da_cons (de_name 4) (da_cons de_int (da_cons (de_tup da_nil) da_nil)))) da_nil))) (da_cons (de_callP c_law_back hK (hr.mono (by decide)) (by rfl) (da_cons (de_name 0) (da_cons (de_name 5) da_nil))) da_nil))))))))
  (dss_one (ds_ret (de_addN 3 hK (de_callP c_law_rings hK (hr.mono (by decide)) (by rfl) (da_cons (de_name 0) (da_cons (de_name 1) da_nil))))))))
abbrev nfirst_way : List Str := ["web", "room", "other", "ways"]
abbrev pfirst_way : List Str := ["web", "room", "other"]
theorem scfirst_way : FnScope nfirst_way pfirst_way (defScope sfirst_way) := ⟨rfl, rfl, rfl, by decide +kernel, rfl, by decide +kernel, by decide +kernel⟩
theorem kfirst_way {f : Addr} {fd : FuncData} (hKK : K = TabF.K) (hCN : ∀ a, TabF.C a = none) (F : FunD K "first_way" "first_way" (defArgs sfirst_way) (defBody sfirst_way) (defScope sfirst_way) [] [] f fd) (hm : mg "first_way" = some (.ref f)) (cfirst_ways : CalD P w K mg base 3 "first_ways" Cfirst_ways) (cties_of_piece : CalD P w K mg base 3 "ties_of_piece" Cties_of_piece) {X_NotInOne : Addr} (x_NotInOne : XKit P w K mg base "NotInOne" "room" X_NotInOne) : CalX P w K mg base 4 "first_way" Cfirst_way := by
  have S := scfirst_way
  refine def_okX false F S hm (F.bindsN fun _ _ _ _ _ _ us hl => match us, hl with | [_, _, _], _ => rfl) wfirst_way lenfirst_way (fun z => nomatch z) specfirst_way (fun cdv A outer s H E Δ hr hK ha0 tk => ?_)
  have hu := hu_of hr.toRoom
  exact (dss_cons (ds_set 3 S.nd (de_ix (de_callP cfirst_ways hK (hr.mono (by decide)) (by rfl) (da_cons (de_name 0) (da_cons (de_name 1) (da_cons (de_callP cties_of_piece hK (hr.mono (by decide)) (by rfl) (da_cons (de_name 0) (da_cons (de_name 1) da_nil))) da_nil)))) de_int (fun _ _ => rfl)))
  (dss_cons (ds_if (dt_dnInF 3 hr.units (de_name 2)) (dss_one (ds_raiseK x_NotInOne rfl tk (hr.mono (by decide)) (by rfl) (da_cons (de_name 2) da_nil))) dss_nil)
  (dss_one (ds_ret (de_dixF (hs := fun _ _ => rfl) 3 hr.units (de_name 2))))))
abbrev n_law_right : List Str := ["m", "rooms", "ways", "due", "told", "walk", "other", "room", "web"]
abbrev p_law_right : List Str := ["m"]
theorem sc_law_right : FnScope n_law_right p_law_right (defScope s_law_right) := ⟨rfl, rfl, rfl, by decide +kernel, rfl, by decide +kernel, by decide +kernel⟩
theorem k_law_right {f : Addr} {fd : FuncData} (hKK : K = TabF.K) (hCN : ∀ a, TabF.C a = none) (F : FunD K "_law_right" "_law_right" (defArgs s_law_right) (defBody s_law_right) (defScope s_law_right) [] [] f fd) (hm : mg "_law_right" = some (.ref f)) (b_repr : mg "repr" = none) (b_tuple : mg "tuple" = none) (c_law_bare : CalD P w K mg base 1 "_law_bare" C_law_bare) (c_law_closed : CalD P w K mg base 5 "_law_closed" C_law_closed) (c_law_draw : CalD P w K mg base 1 "_law_draw" C_law_draw) (c_law_home : CalD P w K mg base 3 "_law_home" C_law_home) (c_law_of : CalD P w K mg base 2 "_law_of" C_law_of) (c_law_product : CalD P w K mg base 5 "_law_product" C_law_product) (c_law_rings : CalD P w K mg base 4 "_law_rings" C_law_rings) (c_law_sources : CalD P w K mg base 5 "_law_sources" C_law_sources) (c_law_web : CalD P w K mg base 3 "_law_web" C_law_web) (care_equal : CalD P w K mg base 4 "are_equal" Care_equal) (crings_at : CalD P w K mg base 5 "rings_at" Crings_at) (csources_at : CalD P w K mg base 6 "sources_at" Csources_at) (cfirst_way : CalX P w K mg base 4 "first_way" Cfirst_way) {X_NotInOne : Addr} (x_NotInOne : XKit P w K mg base "NotInOne" "room" X_NotInOne) {a_law_outcome : Addr} {d_law_outcome : FuncData} (F_law_outcome : FunD K "_law_outcome" "_law_outcome" (defArgs s_law_outcome) (defBody s_law_outcome) (defScope s_law_outcome) [] [] a_law_outcome d_law_outcome) (m_law_outcome : mg "_law_outcome" = some (.ref a_law_outcome)) {cL PL : Addr} (lamK : LamK K base mg "_law_right" fd cL PL) (sn1 : SeenO K mg ["NotInOne"] [(X_NotInOne, ⟨"NotInOne", 2, .tup [.st "room", .fl "room"]⟩)]) : CalD P w K mg base 7 "_law_right" C_law_right := by
  have S := sc_law_right
  refine def_okC false F S hm (F.bindsN fun _ _ _ _ _ _ us hl => match us, hl with | [_], _ => rfl) w_law_right len_law_right (fun z => nomatch z) spec_law_right (fun A outer s H E Δ hr hK ha0 => ?_)
  have hu := hu_of hr.toRoom
  exact (dss_cons (ds_set 1 S.nd (de_op (do_add hK) de_int (de_callG c_law_draw hK (hr.mono (by decide)) (by rfl) (da_cons (de_name 0) (da_cons de_int da_nil)))))
  (dss_cons (ds_set 8 S.nd (de_callG c_law_web hK (hr.mono (by decide)) (by rfl) (da_cons (de_name 0) (da_cons (de_name 1) (da_cons (de_callG c_law_draw hK (hr.mono (by decide)) (by rfl) (da_cons (de_name 0) (da_cons de_int da_nil))) (da_cons (de_callG c_law_of hK (hr.mono (by decide)) (by rfl) (da_cons (de_name 0) (da_cons (de_lst (da_cons de_int (da_cons de_int da_nil))) da_nil))) da_nil))))))
  (dss_cons (ds_asg (de_tup (da_cons (de_callG c_law_draw hK (hr.mono (by decide)) (by rfl) (da_cons (de_name 0) (da_cons (de_name 1) da_nil))) (da_cons (de_callG c_law_draw hK (hr.mono (by decide)) (by rfl) (da_cons (de_name 0) (da_cons (de_name 1) da_nil))) da_nil))) (dg_tup (n := 2) rfl (dgs_cons (dg_name 7 S.nd) (dgs_cons (dg_name 6 S.nd) dgs_nil))))
  (dss_cons (ds_set 2 S.nd (de_callP c_law_home hK (hr.mono (by decide)) (by rfl) (da_cons (de_name 8) (da_cons (de_name 7) da_nil))))
  (dss_cons (ds_set 3 S.nd (de_if (dt_din 2 hr.units (de_name 6)) (de_tup (da_cons de_str (da_cons (de_callP c_law_bare hK (hr.mono (by decide)) (by rfl) (da_cons (de_name 7) (da_cons (de_dix (hs := fun _ _ => rfl) 2 hr.units (de_name 6)) da_nil))) da_nil))) (de_tup (da_cons de_str (da_cons (de_name 6) da_nil)))))
  (dss_cons (ds_if (dt_cmp (sc_ne hr.units) (de_cb (cl_reprM hr hK) (by rfl) b_repr (by decide +kernel) (da_cons (de_lam (k := 4) (hs := [(X_NotInOne, ⟨"NotInOne", 2, .tup [.st "room", .fl "room"]⟩)]) (ns := ["NotInOne"]) lamK rfl rfl F_law_outcome (by rfl) m_law_outcome (F_law_outcome.bindsN fun _ _ _ _ _ _ us hl => match us, hl with | [_], _ => rfl) sc_law_outcome rfl (Or.inl rfl) (fun _ => h_law_outcome x_NotInOne _) (hr.mono (by decide)) hK sn1 (by
    intro h hh
    simp only [List.mem_cons, List.not_mem_nil, or_false] at hh
    rcases hh with rfl <;> simp [Out.short]) (by rfl) rfl (fun _ _ _ _ _ => rfl) (fun B out s H E f cA hr Δ hKL tk => (de_callX cfirst_way tk hKL (hr.mono (by decide)) (by rfl) (da_cons (de_name 8) (da_cons (de_name 7) (da_cons (de_name 6) da_nil)))))) da_nil)) (de_cb (cl_reprM hr hK) (by rfl) b_repr (by decide +kernel) (da_cons (de_name 3) da_nil)) (nomark _)) (dss_one (ds_ret de_bl)) dss_nil)
  (dss_cons (ds_if (dt_cmp (sc_ne hr.units) (de_cb (cl_reprM hr hK) (by rfl) b_repr (by decide +kernel) (da_cons (de_callP crings_at hK (hr.mono (by decide)) (by rfl) (da_cons (de_name 8) (da_cons (de_name 7) da_nil))) da_nil)) (de_cb (cl_reprM hr hK) (by rfl) b_repr (by decide +kernel) (da_cons (de_ct (cl_tup hK) (by rfl) b_tuple (by decide +kernel) (da_cons (de_callP c_law_rings hK (hr.mono (by decide)) (by rfl) (da_cons (de_name 8) (da_cons (de_name 7) da_nil))) da_nil)) da_nil)) (nomark _)) (dss_one (ds_ret de_bl)) dss_nil)
  (dss_cons (ds_set 4 S.nd (de_callP csources_at hK (hr.mono (by decide)) (by rfl) (da_cons (de_name 8) (da_cons (de_name 7) da_nil))))
  (dss_cons (ds_if (dt_cmp (sc_ne hr.units) (de_cb (cl_reprM hr hK) (by rfl) b_repr (by decide +kernel) (da_cons (de_name 4) da_nil)) (de_cb (cl_reprM hr hK) (by rfl) b_repr (by decide +kernel) (da_cons (de_ct (cl_tup hK) (by rfl) b_tuple (by decide +kernel) (da_cons (de_callP c_law_sources hK (hr.mono (by decide)) (by rfl) (da_cons (de_name 8) (da_cons (de_name 7) da_nil))) da_nil)) da_nil)) (nomark _)) (dss_one (ds_ret de_bl)) dss_nil)
  (dss_cons (ds_set 5 S.nd (de_callG c_law_closed hK (hr.mono (by decide)) (by rfl) (da_cons (de_name 0) (da_cons (de_name 8) (da_cons (de_name 7) (da_cons (de_callG c_law_draw hK (hr.mono (by decide)) (by rfl) (da_cons (de_name 0) (da_cons de_int da_nil))) (da_cons de_int da_nil)))))))
  (dss_one (ds_ret (de_cmp' sc_isB (de_callP care_equal hK (hr.mono (by decide)) (by rfl) (da_cons (de_name 8) (da_cons (de_name 5) (da_cons (de_callP c_law_product hK (hr.mono (by decide)) (by rfl) (da_cons (de_name 8) (da_cons (de_name 7) (da_cons (de_name 5) (da_cons (de_name 4) da_nil))))) da_nil)))) de_bl (nomark _))))))))))))))
abbrev nlaw : List Str := ["script", "k", "m"]
abbrev plaw : List Str := ["script"]
theorem sclaw : FnScope nlaw plaw (defScope slaw) := ⟨rfl, rfl, rfl, by decide +kernel, rfl, by decide +kernel, by decide +kernel⟩
theorem klaw {f : Addr} {fd : FuncData} (hKK : K = TabF.K) (hCN : ∀ a, TabF.C a = none) (F : FunD K "law" "law" (defArgs slaw) (defBody slaw) (defScope slaw) [] [] f fd) (hm : mg "law" = some (.ref f)) (b_len : mg "len" = none) (b_min : mg "min" = none) (b_range : mg "range" = none) (c_law_begun : CalD P w K mg base 1 "_law_begun" C_law_begun) (c_law_right : CalD P w K mg base 7 "_law_right" C_law_right) : FnG P w K mg base CX0 8 f fd ["script"] (spD K Claw) := by
  have S := sclaw
  refine def_fn true F S hm (F.bindsN fun _ _ _ _ _ _ us hl => match us, hl with | [_], _ => rfl) wlaw lenlaw (fun _ => noglaw) speclaw (fun cdv A outer s H E Δ hr hK ha0 => ?_)
  have hu := hu_of hr.toRoom
  exact (dss_cons (ds_for PassesOwn.never rfl (di_r1 (by rfl) b_range (da_cons (de_op (do_add hK) de_int (de_cb (cl_min2 rfl) (by rfl) b_min (by decide +kernel) (da_cons (de_cb (cl_len hK) (by rfl) b_len (by decide +kernel) (da_cons (de_name 0) da_nil)) (da_cons de_int da_nil)))) da_nil)) (dg_name 1 S.nd)
  (dss_cons (ds_setG 2 (ha0 rfl) c_law_begun hK (hr.mono (by decide)) (by rfl) S.nd (da_cons (de_name 0) (da_cons (de_name 1) da_nil)))
  (dss_one (ds_if (PW.pt (dw_or (dt_not (dt_tru (de_callG c_law_right hK (hr.mono (by decide)) (by rfl) (da_cons (de_name 2) da_nil)))) (dw_or1 (dt_not (dt_tru (de_callG c_law_right hK (hr.mono (by decide)) (by rfl) (da_cons (de_name 2) da_nil))))))) (dss_one (ds_ret de_bl)) dss_nil))))
  (dss_one (ds_ret de_bl)))
end
end K
set_option Elab.async false
set_option linter.all false
set_option maxRecDepth 100000
set_option maxHeartbeats 0
namespace K
open PySem PySem.Spec PyProof.Rows L2 Dl
def tabC (K : PySem.W.Frag) : Addr → Option (List V) := fun a => none
theorem tabC_ok (K : PySem.W.Frag) : ∀ (a : Addr) (vs : List V), tabC K a = some vs → ∀ H : Hp, SqT K H a vs := by
  intro a vs h H
  unfold tabC at h
  cases h
@[reducible] def tabF (K : PySem.W.Frag) : TabF := ⟨fun K => [((He.cT K ("_law_right", none)).2, (("_law_right" : Str) ++ ".<locals>.") ++ "<lambda>")], K, tabC K, tabC_ok K, lookN []⟩
def csT (K : PySem.W.Frag) : List (Addr × Addr) := [He.cT K ("_law_right", none)]
theorem law_sp {K : PySem.W.Frag} {H : Hp} {a : Addr} {ns : List Int} {E : XK} (hl : ns.length ≤ 63) (tabs : ∀ b ∈ (csT K).map (·.2), H b = some (.tbl #[])) (hS : SqL K H a (ns.map V.int)) : @spD (tabF K) K Claw [.ref a] H (fun v _ => v = .bl true) E := by
  letI := tabF K
  refine sp_law (fun p hp => ?_) hS ⟨ns, rfl, rfl, by omega, fun _ => rfl⟩
  have hp : p ∈ [((He.cT K ("_law_right", none)).2, (("_law_right" : Str) ++ ".<locals>.") ++ "<lambda>")] := hp
  simp only [List.mem_cons, List.not_mem_nil, or_false] at hp
  rcases hp with rfl <;> exact tabs _ (by simp [csT])
theorem facts {P : Program} {w : World} {K : PySem.W.Frag} {h : Heap} {mg : Str → Option Value} {f : Addr} (X : K.In h) (G : h.Ns mainGlobals mg) (hfa : mg ("law" : Str) = some (.ref f)) (c : He.SaysD fa fn K) (cx : ex K = true) :
    ∃ fd : FuncData, (∀ (s : Shared) (v : Value), BindsTo s fd ⟨[v], []⟩ [("script", v)]) ∧ ∀ base : Heap, K.In base → base.Ns mainGlobals mg → (∀ p ∈ csT K, LamX.TabB base mg p.1 p.2) → FnG P w K mg base CX0 8 f fd ["script"] (@spD (tabF K) K Claw) := by
  letI := tabF K
  have hKK : K = TabF.K := rfl
  have hCN : ∀ a, TabF.C a = none := fun a => rfl
  obtain ⟨e_law_begun, F_law_begun⟩ := c.def_ 0 (d := d_law_begun) rfl
  obtain ⟨e_law_draw, F_law_draw⟩ := c.def_ 1 (d := d_law_draw) rfl
  obtain ⟨e_law_of, F_law_of⟩ := c.def_ 2 (d := d_law_of) rfl
  obtain ⟨e_law_web, F_law_web⟩ := c.def_ 3 (d := d_law_web) rfl
  obtain ⟨e_law_ends, F_law_ends⟩ := c.def_ 4 (d := d_law_ends) rfl
  obtain ⟨e_law_out, F_law_out⟩ := c.def_ 5 (d := d_law_out) rfl
  obtain ⟨e_law_home, F_law_home⟩ := c.def_ 6 (d := d_law_home) rfl
  obtain ⟨eways_out, Fways_out⟩ := c.def_ 7 (d := dways_out) rfl
  obtain ⟨eways_over, Fways_over⟩ := c.def_ 8 (d := dways_over) rfl
  obtain ⟨eends_of, Fends_of⟩ := c.def_ 9 (d := dends_of) rfl
  obtain ⟨efirst_ways, Ffirst_ways⟩ := c.def_ 10 (d := dfirst_ways) rfl
  obtain ⟨enumbers_of, Fnumbers_of⟩ := c.def_ 11 (d := dnumbers_of) rfl
  obtain ⟨ecrossings_of, Fcrossings_of⟩ := c.def_ 12 (d := dcrossings_of) rfl
  obtain ⟨ewalk_with, Fwalk_with⟩ := c.def_ 13 (d := dwalk_with) rfl
  obtain ⟨ejoined_of_any_size, Fjoined_of_any_size⟩ := c.def_ 14 (d := djoined_of_any_size) rfl
  obtain ⟨eend_room, Fend_room⟩ := c.def_ 15 (d := dend_room) rfl
  obtain ⟨ecrossings_back, Fcrossings_back⟩ := c.def_ 16 (d := dcrossings_back) rfl
  obtain ⟨eopposite_walk, Fopposite_walk⟩ := c.def_ 17 (d := dopposite_walk) rfl
  obtain ⟨ebrought_along, Fbrought_along⟩ := c.def_ 18 (d := dbrought_along) rfl
  obtain ⟨erings_over, Frings_over⟩ := c.def_ 19 (d := drings_over) rfl
  obtain ⟨epiece_of, Fpiece_of⟩ := c.def_ 20 (d := dpiece_of) rfl
  obtain ⟨eties_of_piece, Fties_of_piece⟩ := c.def_ 21 (d := dties_of_piece) rfl
  obtain ⟨erings_at, Frings_at⟩ := c.def_ 22 (d := drings_at) rfl
  obtain ⟨esources_at, Fsources_at⟩ := c.def_ 23 (d := dsources_at) rfl
  obtain ⟨e_law_turns, F_law_turns⟩ := c.def_ 24 (d := d_law_turns) rfl
  obtain ⟨e_law_walk, F_law_walk⟩ := c.def_ 25 (d := d_law_walk) rfl
  obtain ⟨e_law_joined, F_law_joined⟩ := c.def_ 26 (d := d_law_joined) rfl
  obtain ⟨e_law_end, F_law_end⟩ := c.def_ 27 (d := d_law_end) rfl
  obtain ⟨e_law_closed, F_law_closed⟩ := c.def_ 28 (d := d_law_closed) rfl
  obtain ⟨ego_along, Fgo_along⟩ := c.def_ 29 (d := dgo_along) rfl
  obtain ⟨eplain_of_any_size, Fplain_of_any_size⟩ := c.def_ 30 (d := dplain_of_any_size) rfl
  obtain ⟨eare_equal, Fare_equal⟩ := c.def_ 31 (d := dare_equal) rfl
  obtain ⟨e_law_bare, F_law_bare⟩ := c.def_ 32 (d := d_law_bare) rfl
  obtain ⟨e_law_plain, F_law_plain⟩ := c.def_ 33 (d := d_law_plain) rfl
  obtain ⟨e_law_back, F_law_back⟩ := c.def_ 34 (d := d_law_back) rfl
  obtain ⟨e_law_power, F_law_power⟩ := c.def_ 35 (d := d_law_power) rfl
  obtain ⟨e_law_product, F_law_product⟩ := c.def_ 36 (d := d_law_product) rfl
  obtain ⟨e_law_rings, F_law_rings⟩ := c.def_ 37 (d := d_law_rings) rfl
  obtain ⟨e_law_sources, F_law_sources⟩ := c.def_ 38 (d := d_law_sources) rfl
  obtain ⟨efirst_way, Ffirst_way⟩ := c.def_ 39 (d := dfirst_way) rfl
  obtain ⟨e_law_right, F_law_right⟩ := c.def_ 40 (d := d_law_right) rfl
  obtain ⟨e_law_outcome, F_law_outcome⟩ := c.def_ 41 (d := d_law_outcome) rfl
  obtain ⟨elaw, Flaw⟩ := c.def_ 42 (d := dlaw) rfl
  have g_law_begun := He.glo_ok X G (c.fact 0 (f := .glo "_law_begun") rfl)
  have g_law_draw := He.glo_ok X G (c.fact 1 (f := .glo "_law_draw") rfl)
  have g_law_of := He.glo_ok X G (c.fact 2 (f := .glo "_law_of") rfl)
  have g_law_web := He.glo_ok X G (c.fact 3 (f := .glo "_law_web") rfl)
  have g_law_ends := He.glo_ok X G (c.fact 4 (f := .glo "_law_ends") rfl)
  have g_law_out := He.glo_ok X G (c.fact 5 (f := .glo "_law_out") rfl)
  have g_law_home := He.glo_ok X G (c.fact 6 (f := .glo "_law_home") rfl)
  have gways_out := He.glo_ok X G (c.fact 7 (f := .glo "ways_out") rfl)
  have gways_over := He.glo_ok X G (c.fact 8 (f := .glo "ways_over") rfl)
  have gends_of := He.glo_ok X G (c.fact 9 (f := .glo "ends_of") rfl)
  have gfirst_ways := He.glo_ok X G (c.fact 10 (f := .glo "first_ways") rfl)
  have gnumbers_of := He.glo_ok X G (c.fact 11 (f := .glo "numbers_of") rfl)
  have gcrossings_of := He.glo_ok X G (c.fact 12 (f := .glo "crossings_of") rfl)
  have gwalk_with := He.glo_ok X G (c.fact 13 (f := .glo "walk_with") rfl)
  have gjoined_of_any_size := He.glo_ok X G (c.fact 14 (f := .glo "joined_of_any_size") rfl)
  have gend_room := He.glo_ok X G (c.fact 15 (f := .glo "end_room") rfl)
  have gcrossings_back := He.glo_ok X G (c.fact 16 (f := .glo "crossings_back") rfl)
  have gopposite_walk := He.glo_ok X G (c.fact 17 (f := .glo "opposite_walk") rfl)
  have gbrought_along := He.glo_ok X G (c.fact 18 (f := .glo "brought_along") rfl)
  have grings_over := He.glo_ok X G (c.fact 19 (f := .glo "rings_over") rfl)
  have gpiece_of := He.glo_ok X G (c.fact 20 (f := .glo "piece_of") rfl)
  have gties_of_piece := He.glo_ok X G (c.fact 21 (f := .glo "ties_of_piece") rfl)
  have grings_at := He.glo_ok X G (c.fact 22 (f := .glo "rings_at") rfl)
  have gsources_at := He.glo_ok X G (c.fact 23 (f := .glo "sources_at") rfl)
  have g_law_turns := He.glo_ok X G (c.fact 24 (f := .glo "_law_turns") rfl)
  have g_law_walk := He.glo_ok X G (c.fact 25 (f := .glo "_law_walk") rfl)
  have g_law_joined := He.glo_ok X G (c.fact 26 (f := .glo "_law_joined") rfl)
  have g_law_end := He.glo_ok X G (c.fact 27 (f := .glo "_law_end") rfl)
  have g_law_closed := He.glo_ok X G (c.fact 28 (f := .glo "_law_closed") rfl)
  have ggo_along := He.glo_ok X G (c.fact 29 (f := .glo "go_along") rfl)
  have gplain_of_any_size := He.glo_ok X G (c.fact 30 (f := .glo "plain_of_any_size") rfl)
  have gare_equal := He.glo_ok X G (c.fact 31 (f := .glo "are_equal") rfl)
  have g_law_bare := He.glo_ok X G (c.fact 32 (f := .glo "_law_bare") rfl)
  have g_law_plain := He.glo_ok X G (c.fact 33 (f := .glo "_law_plain") rfl)
  have g_law_back := He.glo_ok X G (c.fact 34 (f := .glo "_law_back") rfl)
  have g_law_power := He.glo_ok X G (c.fact 35 (f := .glo "_law_power") rfl)
  have g_law_product := He.glo_ok X G (c.fact 36 (f := .glo "_law_product") rfl)
  have g_law_rings := He.glo_ok X G (c.fact 37 (f := .glo "_law_rings") rfl)
  have g_law_sources := He.glo_ok X G (c.fact 38 (f := .glo "_law_sources") rfl)
  have gfirst_way := He.glo_ok X G (c.fact 39 (f := .glo "first_way") rfl)
  have g_law_right := He.glo_ok X G (c.fact 40 (f := .glo "_law_right") rfl)
  have g_law_outcome := He.glo_ok X G (c.fact 41 (f := .glo "_law_outcome") rfl)
  have hx_NotInOne : xcB K (He.ga K "NotInOne") = true := cx
  have G_NotInOne := He.glo_ok X G (c.fact 54 (f := .glo "NotInOne") rfl)
  have M_NotInOne := He.meth_ok (c.fact 55 (f := .meth "NotInOne" "__init__") rfl)
  have A_NotInOne_room : PySem.W.findIn K (.ref (He.ga K "NotInOne")) "room" = some none := He.noat_ok (c.fact 56 (f := .noat "NotInOne" "room") rfl)
  obtain ⟨eI_NotInOne, FI_NotInOne⟩ := c.def_ 43 (d := dI_NotInOne) rfl
  have E_NotInOne_NotInOne : PySem.W.exmOne K (.ref (He.ga K "NotInOne")) (.ref (He.ga K "NotInOne")) = some true := He.exm_ok (c.fact 57 (f := .exm "NotInOne" "NotInOne" true) rfl)
  have b_abs := He.free_ok X G (c.fact 43 (f := .free "abs") rfl)
  have b_enumerate := He.free_ok X G (c.fact 44 (f := .free "enumerate") rfl)
  have b_int := He.free_ok X G (c.fact 45 (f := .free "int") rfl)
  have b_len := He.free_ok X G (c.fact 46 (f := .free "len") rfl)
  have b_list := He.free_ok X G (c.fact 47 (f := .free "list") rfl)
  have b_min := He.free_ok X G (c.fact 48 (f := .free "min") rfl)
  have b_range := He.free_ok X G (c.fact 49 (f := .free "range") rfl)
  have b_repr := He.free_ok X G (c.fact 50 (f := .free "repr") rfl)
  have b_sorted := He.free_ok X G (c.fact 51 (f := .free "sorted") rfl)
  have b_tuple := He.free_ok X G (c.fact 52 (f := .free "tuple") rfl)
  have b_zip := He.free_ok X G (c.fact 53 (f := .free "zip") rfl)
  have e := hfa.symm.trans (He.glo_ok X G (c.fact 42 (f := .glo "law") rfl))
  cases e
  have b := FunD.bindsA (ps := ["script"]) Flaw fun _ _ _ _ _ _ us hl => match us, hl with | [_], _ => rfl
  refine ⟨elaw, fun s v => b s [v] rfl, fun base _ _ TB => ?_⟩
  have m_law_outcome := g_law_outcome
  have lamK__law_right : LamK K base mg "_law_right" e_law_right _ _ := lamK_of (p := ("_law_right", none)) F_law_right (TB _ (by simp [csT])) (by show _ ∈ [((He.cT K ("_law_right", none)).2, (("_law_right" : Str) ++ ".<locals>.") ++ "<lambda>")]; simp) (fun r hr => by
    have hr : r ∈ [((He.cT K ("_law_right", none)).2, (("_law_right" : Str) ++ ".<locals>.") ++ "<lambda>")] := hr
    simp only [List.mem_cons, List.not_mem_nil, or_false] at hr
    rcases hr with rfl
    · exact fun _ => rfl)
  have x_NotInOne : XKit P w K mg base "NotInOne" "room" (He.ga K "NotInOne") := xkit_of G_NotInOne hx_NotInOne A_NotInOne_room M_NotInOne (fun T => ini_NotInOne FI_NotInOne A_NotInOne_room T) (FI_NotInOne.bindsN fun _ _ _ _ _ _ us hl => match us, hl with | [_, _], _ => rfl)
  have sn__law_right_1 : SeenO K mg ["NotInOne"] [(He.ga K "NotInOne", ⟨"NotInOne", 2, .tup [.st "room", .fl "room"]⟩)] := by
    intro n hn
    simp only [List.mem_cons, List.not_mem_nil, or_false] at hn
    rcases hn with rfl
    · refine ⟨_, G_NotInOne, fun h hh => ?_⟩
      simp only [List.mem_cons, List.not_mem_nil, or_false] at hh
      rcases hh with rfl
      · exact ⟨E_NotInOne_NotInOne.trans (by rw [decide_eq_true rfl]), fun _ => rfl⟩
  have c_law_begun := k_law_begun (P := P) (w := w) (base := base) (hKK := hKK) (hCN := hCN) F_law_begun g_law_begun b_int b_len
  have c_law_draw := k_law_draw (P := P) (w := w) (base := base) (hKK := hKK) (hCN := hCN) F_law_draw g_law_draw b_int b_len
  have c_law_of := k_law_of (P := P) (w := w) (base := base) (hKK := hKK) (hCN := hCN) F_law_of g_law_of b_len c_law_draw
  have c_law_web := k_law_web (P := P) (w := w) (base := base) (hKK := hKK) (hCN := hCN) F_law_web g_law_web b_range b_tuple c_law_draw c_law_of
  have c_law_ends := k_law_ends (P := P) (w := w) (base := base) (hKK := hKK) (hCN := hCN) F_law_ends g_law_ends 
  have c_law_out := k_law_out (P := P) (w := w) (base := base) (hKK := hKK) (hCN := hCN) F_law_out g_law_out b_len b_range c_law_ends
  have c_law_home := k_law_home (P := P) (w := w) (base := base) (hKK := hKK) (hCN := hCN) F_law_home g_law_home c_law_ends c_law_out
  have cways_out := kways_out (P := P) (w := w) (base := base) (hKK := hKK) (hCN := hCN) Fways_out gways_out b_enumerate b_tuple
  have cways_over := kways_over (P := P) (w := w) (base := base) (hKK := hKK) (hCN := hCN) Fways_over gways_over cways_out
  have cends_of := kends_of (P := P) (w := w) (base := base) (hKK := hKK) (hCN := hCN) Fends_of gends_of 
  have cfirst_ways := kfirst_ways (P := P) (w := w) (base := base) (hKK := hKK) (hCN := hCN) Ffirst_ways gfirst_ways cends_of cways_over
  have cnumbers_of := knumbers_of (P := P) (w := w) (base := base) (hKK := hKK) (hCN := hCN) Fnumbers_of gnumbers_of 
  have ccrossings_of := kcrossings_of (P := P) (w := w) (base := base) (hKK := hKK) (hCN := hCN) Fcrossings_of gcrossings_of 
  have cwalk_with := kwalk_with (P := P) (w := w) (base := base) (hKK := hKK) (hCN := hCN) Fwalk_with gwalk_with b_tuple b_zip
  have cjoined_of_any_size := kjoined_of_any_size (P := P) (w := w) (base := base) (hKK := hKK) (hCN := hCN) Fjoined_of_any_size gjoined_of_any_size ccrossings_of cnumbers_of cwalk_with
  have cend_room := kend_room (P := P) (w := w) (base := base) (hKK := hKK) (hCN := hCN) Fend_room gend_room cends_of
  have ccrossings_back := kcrossings_back (P := P) (w := w) (base := base) (hKK := hKK) (hCN := hCN) Fcrossings_back gcrossings_back 
  have copposite_walk := kopposite_walk (P := P) (w := w) (base := base) (hKK := hKK) (hCN := hCN) Fopposite_walk gopposite_walk ccrossings_back ccrossings_of cend_room cnumbers_of cwalk_with
  have cbrought_along := kbrought_along (P := P) (w := w) (base := base) (hKK := hKK) (hCN := hCN) Fbrought_along gbrought_along cjoined_of_any_size copposite_walk
  have crings_over := krings_over (P := P) (w := w) (base := base) (hKK := hKK) (hCN := hCN) Frings_over grings_over b_tuple cends_of cfirst_ways cjoined_of_any_size copposite_walk
  have cpiece_of := kpiece_of (P := P) (w := w) (base := base) (hKK := hKK) (hCN := hCN) Fpiece_of gpiece_of b_sorted b_tuple cends_of cways_out
  have cties_of_piece := kties_of_piece (P := P) (w := w) (base := base) (hKK := hKK) (hCN := hCN) Fties_of_piece gties_of_piece b_enumerate cpiece_of
  have crings_at := krings_at (P := P) (w := w) (base := base) (hKK := hKK) (hCN := hCN) Frings_at grings_at crings_over cties_of_piece
  have csources_at := ksources_at (P := P) (w := w) (base := base) (hKK := hKK) (hCN := hCN) Fsources_at gsources_at b_tuple cbrought_along cfirst_ways crings_at cties_of_piece
  have c_law_turns := k_law_turns (P := P) (w := w) (base := base) (hKK := hKK) (hCN := hCN) F_law_turns g_law_turns c_law_draw c_law_of
  have c_law_walk := k_law_walk (P := P) (w := w) (base := base) (hKK := hKK) (hCN := hCN) F_law_walk g_law_walk b_range b_tuple c_law_ends c_law_of c_law_out c_law_turns
  have c_law_joined := k_law_joined (P := P) (w := w) (base := base) (hKK := hKK) (hCN := hCN) F_law_joined g_law_joined 
  have c_law_end := k_law_end (P := P) (w := w) (base := base) (hKK := hKK) (hCN := hCN) F_law_end g_law_end c_law_ends
  have c_law_closed := k_law_closed (P := P) (w := w) (base := base) (hKK := hKK) (hCN := hCN) F_law_closed g_law_closed b_tuple c_law_end c_law_home c_law_joined c_law_turns c_law_walk
  have cgo_along := kgo_along (P := P) (w := w) (base := base) (hKK := hKK) (hCN := hCN) Fgo_along ggo_along b_abs b_len b_tuple cends_of cwalk_with
  have cplain_of_any_size := kplain_of_any_size (P := P) (w := w) (base := base) (hKK := hKK) (hCN := hCN) Fplain_of_any_size gplain_of_any_size cgo_along
  have care_equal := kare_equal (P := P) (w := w) (base := base) (hKK := hKK) (hCN := hCN) Fare_equal gare_equal cplain_of_any_size
  have c_law_bare := k_law_bare (P := P) (w := w) (base := base) (hKK := hKK) (hCN := hCN) F_law_bare g_law_bare b_tuple
  have c_law_plain := k_law_plain (P := P) (w := w) (base := base) (hKK := hKK) (hCN := hCN) F_law_plain g_law_plain b_abs b_enumerate b_int b_tuple c_law_ends
  have c_law_back := k_law_back (P := P) (w := w) (base := base) (hKK := hKK) (hCN := hCN) F_law_back g_law_back b_len b_tuple c_law_end
  have c_law_power := k_law_power (P := P) (w := w) (base := base) (hKK := hKK) (hCN := hCN) F_law_power g_law_power b_abs b_range c_law_back c_law_joined c_law_plain
  have c_law_product := k_law_product (P := P) (w := w) (base := base) (hKK := hKK) (hCN := hCN) F_law_product g_law_product b_len b_list b_range c_law_back c_law_ends c_law_home c_law_joined c_law_plain c_law_power
  have c_law_rings := k_law_rings (P := P) (w := w) (base := base) (hKK := hKK) (hCN := hCN) F_law_rings g_law_rings b_enumerate c_law_back c_law_bare c_law_home c_law_joined
  have c_law_sources := k_law_sources (P := P) (w := w) (base := base) (hKK := hKK) (hCN := hCN) F_law_sources g_law_sources c_law_back c_law_bare c_law_home c_law_joined c_law_rings
  have cfirst_way := kfirst_way (P := P) (w := w) (base := base) (hKK := hKK) (hCN := hCN) Ffirst_way gfirst_way cfirst_ways cties_of_piece x_NotInOne
  have c_law_right := k_law_right (P := P) (w := w) (base := base) (hKK := hKK) (hCN := hCN) F_law_right g_law_right b_repr b_tuple c_law_bare c_law_closed c_law_draw c_law_home c_law_of c_law_product c_law_rings c_law_sources c_law_web care_equal crings_at csources_at cfirst_way x_NotInOne F_law_outcome m_law_outcome lamK__law_right sn__law_right_1
  exact klaw (P := P) (w := w) (base := base) (hKK := hKK) (hCN := hCN) Flaw hfa b_len b_min b_range c_law_begun c_law_right
end K
open PySem PySem.W PySem.Calls PyProof.Rows
theorem PySem.Challenge.cw_tubewords_k29_ways_rings_sources_holds : PySem.Challenge.rw_tubewords_k29_ways_rings_sources.Holds := by
  w_on; o_law
  refine HandSHeadRun.head_any (r := OpenLaw.row PySem.Challenge.rw_tubewords_k29_ways_rings_sources) (q := view (OpenLaw.row PySem.Challenge.rw_tubewords_k29_ways_rings_sources).prog [51]) (H := K.hk) (ob := K.ob) (M := 6000) (loose := ([("_law_begun" : PySem.Str), ("_law_draw" : PySem.Str), ("_law_of" : PySem.Str), ("_law_web" : PySem.Str), ("_law_ends" : PySem.Str), ("_law_out" : PySem.Str), ("_law_home" : PySem.Str), ("ways_out" : PySem.Str), ("ways_over" : PySem.Str), ("ends_of" : PySem.Str), ("first_ways" : PySem.Str), ("numbers_of" : PySem.Str), ("crossings_of" : PySem.Str), ("walk_with" : PySem.Str), ("joined_of_any_size" : PySem.Str), ("end_room" : PySem.Str)] ++ [("crossings_back" : PySem.Str), ("opposite_walk" : PySem.Str), ("brought_along" : PySem.Str), ("rings_over" : PySem.Str), ("piece_of" : PySem.Str), ("ties_of_piece" : PySem.Str), ("rings_at" : PySem.Str), ("sources_at" : PySem.Str), ("_law_turns" : PySem.Str), ("_law_walk" : PySem.Str), ("_law_joined" : PySem.Str), ("_law_end" : PySem.Str), ("_law_closed" : PySem.Str), ("go_along" : PySem.Str), ("plain_of_any_size" : PySem.Str), ("are_equal" : PySem.Str)] ++ [("_law_bare" : PySem.Str), ("_law_plain" : PySem.Str), ("_law_back" : PySem.Str), ("_law_power" : PySem.Str), ("_law_product" : PySem.Str), ("_law_rings" : PySem.Str), ("_law_sources" : PySem.Str), ("first_way" : PySem.Str), ("_law_right" : PySem.Str), ("_law_outcome" : PySem.Str), ("WebError" : PySem.Str), ("NotInOne" : PySem.Str), ("_law_over" : PySem.Str), ("__name__" : PySem.Str), ("__name__" : PySem.Str), ("__name__" : PySem.Str)] ++ [("__name__" : PySem.Str), ("__name__" : PySem.Str), ("__name__" : PySem.Str)])) (d := HandSHeadRun.topDef (OpenLaw.row PySem.Challenge.rw_tubewords_k29_ways_rings_sources).prog 51) (kwd := []) K.ob_eq
    (by kernel_rfl) (fun s => by kernel_rfl) K.run (by kernel_rfl) (by kernel_rfl) (by kernel_rfl) (by rfl) (by first | assumption | decide +kernel) (by decide +kernel) ⟨rfl, rfl, rfl, rfl, rfl, by decide +kernel⟩ ?hw ?hc
  case hw => w_witness2
  case hc =>
    letI : Dl.TabF := ⟨fun _ => [], [], fun _ => none, (fun _ _ h => by cases h), fun _ => none⟩
    refine Dl.walkXT (l := PySem.Challenge.rw_tubewords_k29_ways_rings_sources) (n := 63) (k := 8) (x := "script") (CX := L2.CX0) rfl (by decide) (by kernel_rfl) ⟨⟨rfl, by decide, by decide⟩, rfl⟩ ?F (fun _ _ _ _ z => z)
    intro w mg fa h Y G hmg0
    obtain ⟨K, KX, c⟩ := Y
    have hmg : mg ("law" : PySem.Str) = some (.ref fa) := by
      have e : (HandSHeadRun.topDef (OpenLaw.row PySem.Challenge.rw_tubewords_k29_ways_rings_sources).prog 51).name = ("law" : PySem.Str) := by kernel_rfl
      rw [← e]
      exact hmg0
    obtain ⟨fd, hb, hF⟩ := _root_.K.facts (P := (PySem.Challenge.rw_tubewords_k29_ways_rings_sources).prog) (w := w) KX G hmg c.t.d c.more
    refine ⟨K, fd, @Dl.spD (_root_.K.tabF K) K _root_.K.Claw, _root_.K.csT K, KX, hb, fun p hp => ?_, fun p hp => ?_, fun p hp => ?_, fun H a ns hl ho hS => _root_.K.law_sp hl ho.1 hS, hF⟩
    all_goals
      simp only [_root_.K.csT, List.mem_cons, List.not_mem_nil, or_false] at hp
      rcases hp with rfl
      all_goals first | exact c.empty _ (by decide) | exact c.out _ (by decide) | exact PySem.W.codeHd_of_K KX (c.hd _ (by decide))
