import PyProof.Rows.All
import Wide.All
import OpenK.AllK
import Wide.FinOn
import Flt.RightSqrt
import HandS.Comp
import HandS.Deep
import HandS.Defaults
import HandS.DictSub
import HandS.EndBits
import HandS.EndTab
import HandS.Ends
import HandS.Exc
import HandS.ExcField
import HandS.ExcOwn
import HandS.ForMost
import HandS.Gcd
import HandS.Head0
import HandS.Head1
import HandS.Head2
import HandS.Head3
import HandS.HeadEnd
import HandS.HeadHook1
import HandS.HeadHook2
import HandS.HeadHook4
import HandS.IsInst
import HandS.Lambda
import HandS.More
import HandS.SlotsOwn
import HandS.StrMore
import HandS.Strs
import HandS.Style
import HandS.Text
import HandS.TryMany
import HandS.TryOnly
import HandS.TupAny
import HandS.TupMul
import HandS.Walk
import HandS.Wide
import HandS.WideBits
import HandS.Zip
import KE.GoesMore
import KE.KExcInit
import KE.KExcIs
import KE.KIntText
import KE.KMathG
import KE.KTupSum
import KE.SortData
import KE.SortLaws
import PyProof.DictStraight
import PyProof.FitsInt
import PyProof.ReprRoads
import PyProof.StrLawsRepr
import PyProof.StrOps2
import PySem.Challenge.RW_nevertwice_k08_whole_powers_and_floors_g
set_option Elab.async false
set_option linter.all false
set_option maxRecDepth 100000
/-! Data in place of heaps: a reading over plain data, for programs whose values are data and whose one mutable thing is a deck. -/
namespace DL
open PySem PySem.Spec L2
open PyProof.Rows hiding St

/-- data -/
inductive D where
  | non
  | bl (b : Bool)
  | int (i : Int)
  | str (x : Str)
  | tup (ds : List D)
  | lst (ds : List D)
  | dct (ks : List Key) (ds : List D)
  | deck
  | ty (n : String)
  | kt (ds : List D)
  | ins (c : Str) (fs : List Str) (ds : List D)

/-- defs of laws that make lambdas -/
def lamDefs : List Str := (["_law_are_values_right", "_law_refusals_right", "_law_is_making_right", "_law_is_rest_right", "_law_is_around_right", "_law_are_parts_right", "_law_is_alone_right", "_law_are_two_right", "_law_near_right", "_law_sure_right", "_law_thing_right", "_law_corner_right", "_law_objects_right", "_law_calls", "_law_star_right", "_law_is_right", "_law_is_row_right", "_law_is_neighbour_right", "_law_is_back_right", "_law_two_right", "_law_one_right", "_law_is_floor_refused", "_law_is_great_right"] : List Str) ++ (["_law_is_refusal_right", "_law_is_step_right", "_law_is_redone_right", "_law_is_text_right", "_law_is_take_right", "_law_is_odd_deal_right", "_law_is_lay_right", "_law_is_grow_right", "_law_is_deal_right", "_law_is_dead_right", "_law_is_change_right"] : List Str)
def hasDef (K : PySem.W.Frag) (n : Str) : Bool := match PySem.W.nsIn K mainGlobals n with
  | some (some (.ref _)) => true
  | _ => false
def lamQ (n : Str) : Str := n ++ ".<locals>." ++ "<lambda>"
/-- their tables, the names in them -/
def tabsOf (K : PySem.W.Frag) : List (Addr × Str) := (lamDefs.filter (hasDef K)).map fun n => ((He.cT K (n, none)).2, lamQ n)
/-- where the deck stands: its dict, its list; the tables of code objects -/
structure Zn where
  deck : Option (Addr × Addr)
  tabs : List (Addr × Str)
def InZ (Z : Zn) (p : Addr) : Prop := ∃ a l, Z.deck = some (a, l) ∧ (p = a ∨ p = l)
/-- no table of code objects -/
def Kp (o : HO) : Prop := ∀ ps, o ≠ .tbl ps
theorem kp_tup {vs : List V} : Kp (.tup vs) := fun _ h => by cases h
theorem kp_lst {vs : List V} : Kp (.lst vs) := fun _ h => by cases h
theorem kp_dk {vs : List (Key × V)} : Kp (.dK vs) := fun _ h => by cases h
theorem kp_frz {o : Obj} {u : HO} : Kp (.frz o u) := fun _ h => by cases h
theorem kp_xd {vs : List (Str × V)} : Kp (.xd vs) := fun _ h => by cases h
def deckKvs (l : Addr) (m k : Int) : List (Key × V) := [(.inr ("left" : Str), .ref l), (.inr ("mixed" : Str), .int m), (.inr ("draws" : Str), .int k)]
def DeckAt (H : Hp) (a l : Addr) : Prop := ∃ (xs : List Int) (m k : Int), H a = some (.dK (deckKvs l m k)) ∧ H l = some (.lst (xs.map V.int)) ∧ xs.length ≤ 63
/-- a store elsewhere leaves the tables as they are -/
theorem tab_upd {H : Hp} {A P : Addr} {o o' : HO} {q : Str} (h : H A = some o) (n1 : Kp o) (n2 : ∀ φ, o ≠ .ext φ) (t : LamX.TabS H P q) : LamX.TabS (upd H A o') P q := by
  obtain ⟨ps, h1, h2, h3⟩ := t
  have e1 : P ≠ A := fun z => by rw [z, h] at h1; cases h1; exact n1 ps rfl
  refine ⟨ps, by rw [upd_ne e1]; exact h1, h2, fun pos cv hc => ?_⟩
  obtain ⟨c, e2, e3⟩ := h3 pos cv hc
  have e4 : c ≠ A := fun z => by
    rw [z, h] at e3
    unfold LamX.CodeO at e3
    cases e3
    exact n2 _ rfl
  exact ⟨c, e2, by rw [upd_ne e4]; exact e3⟩
def DeckOk (Z : Zn) (H : Hp) : Prop := (∀ a l, Z.deck = some (a, l) → DeckAt H a l) ∧ LamX.Tabs Z.tabs H
/-- what may happen to a heap: new things come, the deck changes as a deck -/
structure Ext (Z : Zn) (H H' : Hp) : Prop where
  keep : ∀ p o, ¬ InZ Z p → Kp o → H p = some o → H' p = some o
  deck : DeckOk Z H → DeckOk Z H'
theorem Ext.refl {Z : Zn} {H : Hp} : Ext Z H H := ⟨fun _ _ _ _ h => h, fun h => h⟩
theorem Ext.trans {Z : Zn} {H H1 H2 : Hp} (a : Ext Z H H1) (b : Ext Z H1 H2) : Ext Z H H2 :=
  ⟨fun p o n k h => b.keep p o n k (a.keep p o n k h), fun h => b.deck (a.deck h)⟩

abbrev NK : Hp := fun _ => none
/-- where the class of this name stands -/
def insA (K : PySem.W.Frag) (c : Str) : Addr := match PySem.W.nsIn K mainGlobals c with
  | some (some (.ref a)) => a
  | _ => 0
/-- a class of the program's own whose instances have these attributes -/
structure InsK (K : PySem.W.Frag) (c : Str) (fs : List Str) : Prop where
  at_ : PySem.W.nsIn K mainGlobals c = some (some (.ref (insA K c)))
  cls : Cls K (insA K c)
  no : ∀ f ∈ fs, NoAttr K (insA K c) f
  ca : PySem.W.findIn K (.ref (insA K c)) "__class__" = some (some (.builtin "object.__class__"))
  cn : PySem.W.specialIn K (.builtin "object.__class__") "__get__" = some (some (.builtin "getset_descriptor.__get__"))
  ct : PySem.W.takesIn K (.builtin "object.__class__") = some true
  cm : PySem.W.mroIn K (insA K c) (.type "object") = some true
  kit : ∀ b ∈ ["int", "bool", "tuple", "list", "str", "dict"], PySem.W.kitOne K (.ref (insA K c)) (.type b) = some false
  tik : ∀ b ∈ ["NoneType", "int", "bool", "tuple", "list", "str", "dict"], PySem.W.kitOne K (.type b) (.ref (insA K c)) = some false
  self : PySem.W.kitOne K (.ref (insA K c)) (.ref (insA K c)) = some true
  nf : PySem.W.notFirst K (insA K c) (.ref (insA K c)) = true
def insB (K : PySem.W.Frag) (c : Str) (fs : List Str) : Bool :=
  decide (PySem.W.nsIn K mainGlobals c = some (some (.ref (insA K c)))) &&
  (PySem.W.plainGet K (insA K c) Str.empty && (PySem.W.hasDictIn K (insA K c) && (PySem.W.plainOver K (insA K c) &&
  (decide (PySem.W.findIn K (.ref (insA K c)) "__setattr__" = some (some (.builtin "object.__setattr__"))) &&
  ((fs.all fun f => decide (PySem.W.findIn K (.ref (insA K c)) f = some none)) &&
  (decide (PySem.W.findIn K (.ref (insA K c)) "__class__" = some (some (.builtin "object.__class__"))) &&
  (decide (PySem.W.specialIn K (.builtin "object.__class__") "__get__" = some (some (.builtin "getset_descriptor.__get__"))) &&
  (decide (PySem.W.takesIn K (.builtin "object.__class__") = some true) &&
  (decide (PySem.W.mroIn K (insA K c) (.type "object") = some true) &&
  ((["int", "bool", "tuple", "list", "str", "dict"].all fun b => decide (PySem.W.kitOne K (.ref (insA K c)) (.type b) = some false)) &&
  ((["NoneType", "int", "bool", "tuple", "list", "str", "dict"].all fun b => decide (PySem.W.kitOne K (.type b) (.ref (insA K c)) = some false)) &&
  (decide (PySem.W.kitOne K (.ref (insA K c)) (.ref (insA K c)) = some true) && PySem.W.notFirst K (insA K c) (.ref (insA K c))))))))))))))
theorem insB_ok {K : PySem.W.Frag} {c : Str} {fs : List Str} (h : insB K c fs = true) : InsK K c fs := by
  unfold insB at h
  simp only [Bool.and_eq_true, decide_eq_true_eq, List.all_eq_true] at h
  obtain ⟨h1, h2, h3, h4, h5, h6, h7, h8, h9, h10, h11, h12, h13, h14⟩ := h
  exact ⟨h1, ⟨h2, h3, h4, h5⟩, h6, h7, h8, h9, h10, h11, h12, h13, h14⟩
theorem kp_ins {C dx : Addr} {fs : List (Str × V)} : Kp (.ins C dx fs) := fun _ h => by cases h
theorem kp_own {x : Addr} : Kp (.own x) := fun _ h => by cases h
mutual
/-- the value v is the data d; nothing of it stands where N says -/
def Rep (K : PySem.W.Frag) (Z : Zn) (N : Addr → Prop) (H : Hp) : D → V → Prop
  | .non, v => v = .non
  | .bl b, v => v = .bl b
  | .int i, v => v = .int i
  | .str x, v => v = .str x
  | .tup ds, v => ∃ a vs, v = .ref a ∧ ((¬ N a ∧ H a = some (.tup vs)) ∨ SqT K NK a vs) ∧ Reps K Z N H ds vs
  | .lst ds, v => ∃ a vs, v = .ref a ∧ ¬ N a ∧ H a = some (.lst vs) ∧ Reps K Z N H ds vs
  | .dct ks ds, v => ∃ a vs, v = .ref a ∧ ¬ N a ∧ H a = some (.dK (ks.zip vs)) ∧ ks.length = vs.length ∧ Reps K Z N H ds vs
  | .deck, v => ∃ a l, Z.deck = some (a, l) ∧ v = .ref a
  | .ty n, v => v = .ty n
  | .kt ds, v => ∃ a vs o, v = .ref a ∧ ¬ N a ∧ H a = some (.frz o (.tup vs)) ∧ o.dict = none ∧ Reps K Z N H ds vs
  | .ins c fs ds, v => ∃ a dx vs, v = .ref a ∧ ¬ N a ∧ H a = some (.ins (insA K c) dx (fs.zip vs)) ∧ fs.length = vs.length ∧ InsK K c fs ∧ Reps K Z N H ds vs
def Reps (K : PySem.W.Frag) (Z : Zn) (N : Addr → Prop) (H : Hp) : List D → List V → Prop
  | [], vs => vs = []
  | d :: ds, vs => ∃ v r, vs = v :: r ∧ Rep K Z N H d v ∧ Reps K Z N H ds r
end
section
variable {K : PySem.W.Frag} {Z : Zn} {N N' : Addr → Prop} {H H' : Hp}
mutual
theorem Rep.mono (hk : ∀ p o, ¬ N p → Kp o → H p = some o → H' p = some o ∧ ¬ N' p) : ∀ (d : D) (v : V), Rep K Z N H d v → Rep K Z N' H' d v
  | .non, _, h => h
  | .bl _, _, h => h
  | .int _, _, h => h
  | .str _, _, h => h
  | .tup ds, v, h => by
    obtain ⟨a, vs, e, r, q⟩ := h
    refine ⟨a, vs, e, ?_, Reps.mono hk ds vs q⟩
    rcases r with ⟨n, r⟩ | r
    · obtain ⟨r', n'⟩ := hk _ _ n kp_tup r
      exact .inl ⟨n', r'⟩
    · exact .inr r
  | .lst ds, v, h => by
    obtain ⟨a, vs, e, n, r, q⟩ := h
    obtain ⟨r', n'⟩ := hk _ _ n kp_lst r
    exact ⟨a, vs, e, n', r', Reps.mono hk ds vs q⟩
  | .dct ks ds, v, h => by
    obtain ⟨a, vs, e, n, r, l, q⟩ := h
    obtain ⟨r', n'⟩ := hk _ _ n kp_dk r
    exact ⟨a, vs, e, n', r', l, Reps.mono hk ds vs q⟩
  | .deck, _, h => h
  | .ty _, _, h => h
  | .kt ds, v, h => by
    obtain ⟨a, vs, o, e, n, r, d, q⟩ := h
    obtain ⟨r', n'⟩ := hk _ _ n kp_frz r
    exact ⟨a, vs, o, e, n', r', d, Reps.mono hk ds vs q⟩
  | .ins c fs ds, v, h => by
    obtain ⟨a, dx, vs, e, n, r, l, i, q⟩ := h
    obtain ⟨r', n'⟩ := hk _ _ n kp_ins r
    exact ⟨a, dx, vs, e, n', r', l, i, Reps.mono hk ds vs q⟩
theorem Reps.mono (hk : ∀ p o, ¬ N p → Kp o → H p = some o → H' p = some o ∧ ¬ N' p) : ∀ (ds : List D) (vs : List V), Reps K Z N H ds vs → Reps K Z N' H' ds vs
  | [], _, h => h
  | d :: ds, vs, h => by
    obtain ⟨v, r, e, h1, h2⟩ := h
    exact ⟨v, r, e, Rep.mono hk d v h1, Reps.mono hk ds r h2⟩
end
theorem Rep.ext {d : D} {v : V} (e : Ext Z H H') (hz : ∀ p, InZ Z p → N p) (h : Rep K Z N H d v) : Rep K Z N H' d v :=
  Rep.mono (fun p o n k q => ⟨e.keep p o (fun z => n (hz p z)) k q, n⟩) d v h
theorem Reps.ext {ds : List D} {vs : List V} (e : Ext Z H H') (hz : ∀ p, InZ Z p → N p) (h : Reps K Z N H ds vs) : Reps K Z N H' ds vs :=
  Reps.mono (fun p o n k q => ⟨e.keep p o (fun z => n (hz p z)) k q, n⟩) ds vs h
theorem Rep.less {d : D} {v : V} (hn : ∀ p, N' p → N p) (h : Rep K Z N H d v) : Rep K Z N' H d v :=
  Rep.mono (fun p o n _ q => ⟨q, fun z => n (hn p z)⟩) d v h
theorem Reps.less {ds : List D} {vs : List V} (hn : ∀ p, N' p → N p) (h : Reps K Z N H ds vs) : Reps K Z N' H ds vs :=
  Reps.mono (fun p o n _ q => ⟨q, fun z => n (hn p z)⟩) ds vs h
theorem Reps.length : ∀ {ds : List D} {vs : List V}, Reps K Z N H ds vs → ds.length = vs.length
  | [], _, h => by cases h; rfl
  | d :: ds, _, ⟨v, r, e, _, q⟩ => by subst e; simp [Reps.length q]
theorem Reps.get : ∀ {ds : List D} {vs : List V} {i : Nat} {d : D}, Reps K Z N H ds vs → ds[i]? = some d → ∃ v, vs[i]? = some v ∧ Rep K Z N H d v
  | [], _, _, _, _, e => by simp at e
  | x :: ds, _, 0, d, ⟨v, r, e, h, _⟩, g => by subst e; simp at g; subst g; exact ⟨v, rfl, h⟩
  | x :: ds, _, i + 1, d, ⟨v, r, e, _, q⟩, g => by
    subst e
    obtain ⟨w, h1, h2⟩ := Reps.get (i := i) q (by simpa using g)
    exact ⟨w, by simpa using h1, h2⟩
theorem Reps.getV : ∀ {ds : List D} {vs : List V} {i : Nat} {v : V}, Reps K Z N H ds vs → vs[i]? = some v → ∃ d, ds[i]? = some d ∧ Rep K Z N H d v
  | [], _, _, _, h, e => by cases h; simp at e
  | x :: ds, _, 0, v, ⟨w, r, e, h, _⟩, g => by subst e; simp at g; subst g; exact ⟨x, rfl, h⟩
  | x :: ds, _, i + 1, v, ⟨w, r, e, _, q⟩, g => by
    subst e
    obtain ⟨d, h1, h2⟩ := Reps.getV (i := i) q (by simpa using g)
    exact ⟨d, by simpa using h1, h2⟩
theorem Reps.append : ∀ {ds es : List D} {vs ws : List V}, Reps K Z N H ds vs → Reps K Z N H es ws → Reps K Z N H (ds ++ es) (vs ++ ws)
  | [], _, _, _, h, q => by cases h; exact q
  | d :: ds, _, _, _, ⟨v, r, e, h1, h2⟩, q => by subst e; exact ⟨v, _, rfl, h1, Reps.append h2 q⟩
theorem Reps.snoc {ds : List D} {d : D} {vs : List V} {v : V} (h : Reps K Z N H ds vs) (q : Rep K Z N H d v) : Reps K Z N H (ds ++ [d]) (vs ++ [v]) :=
  h.append ⟨v, [], rfl, q, rfl⟩
theorem Reps.take : ∀ {ds : List D} {vs : List V} (n : Nat), Reps K Z N H ds vs → Reps K Z N H (ds.take n) (vs.take n)
  | _, _, 0, _ => by simp [Reps]
  | [], _, n + 1, h => by cases h; simp [Reps]
  | d :: ds, _, n + 1, ⟨v, r, e, h1, h2⟩ => by subst e; exact ⟨v, _, rfl, h1, Reps.take n h2⟩
theorem Reps.drop : ∀ {ds : List D} {vs : List V} (n : Nat), Reps K Z N H ds vs → Reps K Z N H (ds.drop n) (vs.drop n)
  | _, _, 0, h => h
  | [], _, n + 1, h => by cases h; simp [Reps]
  | d :: ds, _, n + 1, ⟨v, r, e, h1, h2⟩ => by subst e; exact Reps.drop n h2
theorem Reps.ints : ∀ {ns : List Int} {vs : List V}, Reps K Z N H (ns.map D.int) vs → vs = ns.map V.int
  | [], _, h => h
  | n :: ns, _, ⟨v, r, e, h1, h2⟩ => by subst e; rw [show v = V.int n from h1, Reps.ints h2]; rfl
theorem Reps.bls : ∀ {ns : List Bool} {vs : List V}, Reps K Z N H (ns.map D.bl) vs → vs = ns.map V.bl
  | [], _, h => h
  | n :: ns, _, ⟨v, r, e, h1, h2⟩ => by subst e; rw [show v = V.bl n from h1, Reps.bls h2]; rfl
end

/-! ### the state of a def's body -/
/-- an exception as data: its class, what it bears -/
structure DX where
  cls : Str
  fs : List (Str × D)
/-- a slot: unassigned, data, a list of the def's own that it may change -/
inductive Slot where
  | un
  | d (x : D)
  | own (xs : List D)
  | raw (v : V)
abbrev SE := List Slot
structure FP where
  K : PySem.W.Frag
  Z : Zn
  B : Addr → Prop
  H0 : Hp
  ex : DX → SE → Prop
  N1 : Addr → Prop
  H1 : Hp
def SlotOk (F : FP) (N : Addr → Prop) (H : Hp) (o : Option (Option V)) : Slot → Prop
  | .un => True
  | .d x => ∃ v, o = some (some v) ∧ Rep F.K F.Z N H x v
  | .own xs => ∃ p vs, o = some (some (.ref p)) ∧ N p ∧ ¬ F.B p ∧ H p = some (.lst vs) ∧ Reps F.K F.Z N H xs vs
  | .raw v => o = some (some v)
/-- what was frozen is so still -/
def Evo (N : Addr → Prop) (H : Hp) (N' : Addr → Prop) (H' : Hp) : Prop := ∀ p o, ¬ N p → Kp o → H p = some o → H' p = some o ∧ ¬ N' p
theorem Evo.refl {N : Addr → Prop} {H : Hp} : Evo N H N H := fun _ _ n _ h => ⟨h, n⟩
theorem Evo.trans {N N1 N2 : Addr → Prop} {H H1 H2 : Hp} (a : Evo N H N1 H1) (b : Evo N1 H1 N2 H2) : Evo N H N2 H2 := fun p o n k h =>
  let ⟨h1, n1⟩ := a p o n k h
  b p o n1 k h1
structure NOk (F : FP) (N : Addr → Prop) (H : Hp) : Prop where
  deck : DeckOk F.Z H
  ext : Ext F.Z F.H0 H
  sub : ∀ p, F.B p → N p
  zin : ∀ p, InZ F.Z p → F.B p
  all : ∀ p, N p → ∃ o, H p = some o ∧ Kp o
  new : ∀ p, N p → ¬ F.B p → ∀ o, Kp o → F.H0 p = some o → False
  gr : Evo F.N1 F.H1 N H
  tb : F.Z.tabs = tabsOf F.K
structure FOk (F : FP) (N : Addr → Prop) (σ : St) (H : Hp) (env : SE) : Prop where
  n : NOk F N H
  len : σ.length = env.length
  slot : ∀ (i : Nat) s, env[i]? = some s → SlotOk F N H σ[i]? s
  apart : ∀ (i j : Nat) p xs ys, i ≠ j → env[i]? = some (.own xs) → env[j]? = some (.own ys) → σ[i]? = some (some (.ref p)) → σ[j]? = some (some (.ref p)) → False
section
variable {F : FP} {N : Addr → Prop} {σ : St} {H H' : Hp} {env : SE}
theorem NOk.z (n : NOk F N H) (p : Addr) (h : InZ F.Z p) : N p := n.sub p (n.zin p h)
theorem NOk.ext' (n : NOk F N H) (e : Ext F.Z H H') : NOk F N H' where
  deck := e.deck n.deck
  ext := n.ext.trans e
  sub := n.sub
  zin := n.zin
  all := fun p h => by
    by_cases z : InZ F.Z p
    · obtain ⟨a, l, e1, e2⟩ := z
      obtain ⟨xs, m, k, h1, h2, _⟩ := (e.deck n.deck).1 a l e1
      rcases e2 with e2 | e2
      · rw [e2]; exact ⟨_, h1, kp_dk⟩
      · rw [e2]; exact ⟨_, h2, kp_lst⟩
    · obtain ⟨o, q, k⟩ := n.all p h
      exact ⟨o, e.keep p o z k q, k⟩
  new := n.new
  gr := n.gr.trans fun p o np k h => ⟨e.keep p o (fun z => np (n.z p z)) k h, np⟩
  tb := n.tb
theorem SlotOk.ext (n : NOk F N H) (e : Ext F.Z H H') {o : Option (Option V)} : ∀ {s : Slot}, SlotOk F N H o s → SlotOk F N H' o s
  | .un, _ => trivial
  | .d x, ⟨v, h1, h2⟩ => ⟨v, h1, h2.ext e n.z⟩
  | .own xs, ⟨p, vs, h1, h2, h3, h4, h5⟩ => ⟨p, vs, h1, h2, h3, e.keep p _ (fun z => h3 (n.zin p z)) kp_lst h4, h5.ext e n.z⟩
  | .raw v, h => h
theorem FOk.ext' (f : FOk F N σ H env) (e : Ext F.Z H H') : FOk F N σ H' env :=
  ⟨f.n.ext' e, f.len, fun i s q => (f.slot i s q).ext f.n e, f.apart⟩
/-- a new thing -/
theorem NOk.fresh (n : NOk F N H) {p : Addr} (h : H p = none) : ¬ N p := fun q => by
  obtain ⟨o, e, _⟩ := n.all p q
  rw [h] at e; cases e
theorem NOk.new0 (n : NOk F N H) {p : Addr} (h : H p = none) : ∀ o, Kp o → F.H0 p = some o → False := fun o k e => by
  rw [n.ext.keep p o (fun z => n.fresh h (n.z p z)) k e] at h
  cases h
theorem deck_mono {Z : Zn} {H H' : Hp} (k : ∀ q u, H q = some u → H' q = some u) (dk : DeckOk Z H) : DeckOk Z H' :=
  ⟨fun a l e => let ⟨xs, m, c, h1, h2, h3⟩ := dk.1 a l e; ⟨xs, m, c, k _ _ h1, k _ _ h2, h3⟩, dk.2.ext k⟩
theorem Ext.of_mono {Z : Zn} {H H' : Hp} (k : ∀ q u, H q = some u → H' q = some u) : Ext Z H H' := ⟨fun q u _ _ e => k q u e, deck_mono k⟩
theorem NOk.lay (n : NOk F N H) {p : Addr} {o : HO} (h : H p = none) : Ext F.Z H (upd H p o) :=
  .of_mono fun q u e => by rw [upd_ne (ne_of_none e h)]; exact e
end

/-! ### readings over data -/
abbrev XW := DX → SE → Prop
abbrev TDE := XW → SE → (D → Prop) → Prop
abbrev TDT := XW → SE → (Bool → Prop) → Prop
abbrev TDA := XW → SE → (List D → Prop) → Prop
structure DEnds where
  nx : SE → Prop
  rt : D → Prop
  bk : SE → Prop := fun _ => False
  ct : SE → Prop := fun _ => False
abbrev TDS := XW → DEnds → SE → Prop
def tD (F : FP) (T : TDE) : TE := fun σ H Q => ∃ N env Qd, FOk F N σ H env ∧ T F.ex env Qd ∧ ∀ v H' d, Ext F.Z H H' → Rep F.K F.Z N H' d v → Qd d → Q v H'
def tDT (F : FP) (T : TDT) : TT := fun σ H Q => ∃ N env Qd, FOk F N σ H env ∧ T F.ex env Qd ∧ ∀ b H', Ext F.Z H H' → Qd b → Q b H'
def tDA (F : FP) (T : TDA) : TA := fun σ H Q => ∃ N env Qd, FOk F N σ H env ∧ T F.ex env Qd ∧ ∀ vs H' ds, Ext F.Z H H' → Reps F.K F.Z N H' ds vs → Qd ds → Q vs H'
theorem Evo.of {F : FP} {N : Addr → Prop} {H H' : Hp} (n : NOk F N H) (e : Ext F.Z H H') : Evo N H N H' := fun p o np k h => ⟨e.keep p o (fun z => np (n.z p z)) k h, np⟩
/-- what a body's ends mean below -/
structure EndsOk (F : FP) (N0 : Addr → Prop) (H0 : Hp) (Dd : DEnds) (De : Ends) : Prop where
  nx : ∀ N σ H env, FOk F N σ H env → Evo N0 H0 N H → Dd.nx env → De.nx σ H
  rt : ∀ v H d, Ext F.Z F.H0 H → Rep F.K F.Z F.B H d v → Dd.rt d → De.rt v H
  bk : ∀ N σ H env, FOk F N σ H env → Evo N0 H0 N H → Dd.bk env → De.bk σ H
  ct : ∀ N σ H env, FOk F N σ H env → Evo N0 H0 N H → Dd.ct env → De.ct σ H
def sD (F : FP) (T : TDS) : TS := fun De σ H => ∃ N env Dd, FOk F N σ H env ∧ T F.ex Dd env ∧ EndsOk F N H Dd De

section
variable {X : Cx} {e : Expr} {es : List Expr} {st : Stmt} {sts : List Stmt}
theorem PE.imp {t t' : TE} (h : PE X e t) (hi : ∀ σ H Q, t' σ H Q → t σ H Q) : PE X e t' := ⟨fun pins s σ H Q I hw => h.run pins s σ H Q I (hi _ _ _ hw)⟩
theorem PT.imp {t t' : TT} (h : PT X e t) (hi : ∀ σ H Q, t' σ H Q → t σ H Q) : PT X e t' := ⟨fun pins s σ H Q I hw => h.run pins s σ H Q I (hi _ _ _ hw)⟩
theorem PW.imp {t t' : TT} (h : PW X e t) (hi : ∀ σ H Q, t' σ H Q → t σ H Q) : PW X e t' := ⟨fun wh pins s σ H Q I hw => h.run wh pins s σ H Q I (hi _ _ _ hw)⟩
theorem PA.imp {t t' : TA} (h : PA X es t) (hi : ∀ σ H Q, t' σ H Q → t σ H Q) : PA X es t' := ⟨fun pos pins s σ H Q I hw => h.run pos pins s σ H Q I (hi _ _ _ hw)⟩
theorem PS.imp {t t' : TS} (h : PS X st t) (hi : ∀ De σ H, t' De σ H → t De σ H) : PS X st t' := ⟨fun pins s σ H De I hw => h.run pins s σ H De I (hi _ _ _ hw)⟩
theorem PSs.imp {t t' : TS} (h : PSs X sts t) (hi : ∀ De σ H, t' De σ H → t De σ H) : PSs X sts t' := ⟨fun pins s σ H De I hw => h.run pins s σ H De I (hi _ _ _ hw)⟩
end
end DL
set_option Elab.async false
set_option linter.all false
set_option maxRecDepth 100000
namespace DL
open PySem PySem.Spec L2
open PyProof.Rows hiding St

section
variable {K : PySem.W.Frag} {Z : Zn} {N : Addr → Prop} {H : Hp}
theorem rep_int {i : Int} : Rep K Z N H (.int i) (.int i) := rfl
theorem rep_bl {i : Bool} : Rep K Z N H (.bl i) (.bl i) := rfl
theorem rep_str {i : Str} : Rep K Z N H (.str i) (.str i) := rfl
theorem rep_non : Rep K Z N H .non .non := rfl
end
section
variable {X : Cx} {F : FP} {e a b c : Expr} {es : List Expr} {pos : Pos} {Ta Tb Tc : TDE} {Tas : TDA}

/-! ### names, constants -/
def dVar (i : Nat) : TDE := fun _ env Q => match env[i]? with
  | some (.d x) => Q x
  | _ => False
theorem d_var {i : Nat} (h : PE X e (tVar i)) : PE X e (tD F (dVar i)) := PE.imp h (by
  rintro σ H Q ⟨N, env, Qd, f, hT, k⟩
  unfold dVar at hT
  split at hT
  · rename_i x hx
    obtain ⟨v, e1, r⟩ := f.slot i _ hx
    exact ⟨v, e1, k v H x Ext.refl r hT⟩
  · exact hT.elim)
def dC (d : D) : TDE := fun _ _ Q => Q d
theorem d_const {v : V} {d : D} (h : PE X e (tC v)) (hr : ∀ N H, Rep F.K F.Z N H d v) : PE X e (tD F (dC d)) := PE.imp h (by
  rintro σ H Q ⟨N, env, Qd, f, hT, k⟩
  exact k v H d Ext.refl (hr N H) hT)
theorem d_int {i : Int} {j} : PE X (.Constant (.int i) j pos) (tD F (dC (.int i))) := d_const pe_int fun _ _ => rfl
theorem d_bl {i : Bool} {j} : PE X (.Constant (.bool i) j pos) (tD F (dC (.bl i))) := d_const pe_bl fun _ _ => rfl
theorem d_non {j} : PE X (.Constant .none j pos) (tD F (dC .non)) := d_const pe_non fun _ _ => rfl
theorem d_str {i : Str} {j} : PE X (.Constant (.str i) j pos) (tD F (dC (.str i))) := d_const pe_str fun _ _ => rfl

/-! ### operators -/
abbrev G2 := D → D → (D → Prop) → Prop
structure OpD (F : FP) (r : R2) (g : G2) : Prop where
  ok : ∀ N H x y dx dy Qd (Q : VK), NOk F N H → Rep F.K F.Z N H dx x → Rep F.K F.Z N H dy y → g dx dy Qd → (∀ v H' d, Ext F.Z H H' → Rep F.K F.Z N H' d v → Qd d → Q v H') → r x y H Q
def dBin (g : G2) (Ta Tb : TDE) : TDE := fun ξ env Q => Ta ξ env fun x => Tb ξ env fun y => g x y Q
theorem tOp_imp {r : R2} {g : G2} (hg : OpD F r g) : ∀ σ H Q, tD F (dBin g Ta Tb) σ H Q → tOp r (tD F Ta) (tD F Tb) σ H Q := by
  rintro σ H Q ⟨N, env, Qd, f, hT, k⟩
  refine ⟨N, env, _, f, hT, fun x H1 dx e1 rx q1 => ?_⟩
  refine ⟨N, env, _, f.ext' e1, q1, fun y H2 dy e2 ry q2 => ?_⟩
  exact hg.ok N H2 x y dx dy _ _ ((f.ext' e1).ext' e2).n (rx.ext e2 f.n.z) ry q2 fun v H3 d e3 r3 q3 => k v H3 d ((e1.trans e2).trans e3) r3 q3
theorem d_op {op : Operator} {r : R2} {g : G2} (ho : OpR X (binaryOp op) r) (hg : OpD F r g) (ha : PE X a (tD F Ta)) (hb : PE X b (tD F Tb)) : PE X (.BinOp a op b pos) (tD F (dBin g Ta Tb)) :=
  PE.imp (pe_op ho ha hb) (tOp_imp hg)
theorem d_cmp {op : CmpOp} {r : R2} {g : G2} (ho : OpR X (compareOp op) r) (hg : OpD F r g) (ha : PE X a (tD F Ta)) (hb : PE X b (tD F Tb)) (hm : behindInMarks op b = false) : PE X (.Compare a [op] [b] pos) (tD F (dBin g Ta Tb)) :=
  PE.imp (pe_cmpR ho ha hb hm) (tOp_imp hg)
/-- an expression that tells True or False, as a test -/
def dTest (T : TDE) : TDT := fun ξ env Q => T ξ env fun d => match d with
  | .bl b => Q b
  | _ => False
theorem bl_of {d : D} {Q : Bool → Prop} (h : match d with | .bl b => Q b | _ => False) : ∃ b, d = .bl b ∧ Q b := by
  cases d <;> first | exact ⟨_, rfl, h⟩ | exact h.elim
theorem tTest_imp {T : TDE} {t : TE} (hi : ∀ σ H Q, tD F T σ H Q → t σ H Q) : ∀ σ H Q, tDT F (dTest T) σ H Q → t σ H fun x H' => ∃ k, x = .bl k ∧ Q k H' := by
  rintro σ H Q ⟨N, env, Qd, f, hT, k⟩
  refine hi σ H _ ⟨N, env, _, f, hT, fun v H' d e r q => ?_⟩
  obtain ⟨b, rfl, q⟩ := bl_of q
  exact ⟨b, r, k b H' e q⟩
theorem dt_cmp {op : CmpOp} {r : R2} {g : G2} (ho : OpR X (compareOp op) r) (hg : OpD F r g) (ha : PE X a (tD F Ta)) (hb : PE X b (tD F Tb)) (hm : behindInMarks op b = false) : PT X (.Compare a [op] [b] pos) (tDT F (dTest (dBin g Ta Tb))) :=
  PT.imp (pt_cmpR ho ha hb hm) (tTest_imp (tOp_imp hg))
theorem dt_val (h : PE X e (tD F Ta)) (he : ∀ whole, isTrue e X.env whole = (do let v ← whole; standAt e.pos; holding [v] (truthy v)) := by intro _; rfl) : PT X e (tDT F (dTest Ta)) :=
  PT.imp (pt_val h he) (tTest_imp fun _ _ _ h => h)
/-- an int, a tuple, .. as a test -/
def truD : D → Option Bool
  | .non => some false
  | .bl b => some b
  | .int i => some (i != 0)
  | .tup ds => some (!ds.isEmpty)
  | .lst ds => some (!ds.isEmpty)
  | _ => none
def dTruth (T : TDE) : TDT := fun ξ env Q => T ξ env fun d => match truD d with
  | some b => Q b
  | none => False

/-! ### and, or, not; if -/
def dtAnd (t u : TDT) : TDT := fun ξ env Q => t ξ env fun c => if c = true then u ξ env Q else Q false
def dtOr (t u : TDT) : TDT := fun ξ env Q => t ξ env fun c => if c = true then Q true else u ξ env Q
def dtNot (t : TDT) : TDT := fun ξ env Q => t ξ env fun c => Q (!c)
variable {tA tB' : TDT} {rest : List Expr}
theorem dw_and1 (ha : PT X a (tDT F tA)) : PW X (.BoolOp .And [a] pos) (tDT F tA) := pw_and1 ha
theorem dw_or1 (ha : PT X a (tDT F tA)) : PW X (.BoolOp .Or [a] pos) (tDT F tA) := pw_or1 ha
theorem dw_and (ha : PT X a (tDT F tA)) (hb : PW X (.BoolOp .And (b :: rest) pos) (tDT F tB')) : PW X (.BoolOp .And (a :: b :: rest) pos) (tDT F (dtAnd tA tB')) := PW.imp (pw_and ha hb) (by
  rintro σ H Q ⟨N, env, Qd, f, hT, k⟩
  refine ⟨N, env, _, f, hT, fun c H1 e1 q1 => ?_⟩
  by_cases hc : c = true
  · rw [if_pos hc] at q1 ⊢
    exact ⟨N, env, _, f.ext' e1, q1, fun b H2 e2 q2 => k b H2 (e1.trans e2) q2⟩
  · rw [if_neg hc] at q1 ⊢
    exact k _ _ e1 q1)
theorem dw_or (ha : PT X a (tDT F tA)) (hb : PW X (.BoolOp .Or (b :: rest) pos) (tDT F tB')) : PW X (.BoolOp .Or (a :: b :: rest) pos) (tDT F (dtOr tA tB')) := PW.imp (pw_or ha hb) (by
  rintro σ H Q ⟨N, env, Qd, f, hT, k⟩
  refine ⟨N, env, _, f, hT, fun c H1 e1 q1 => ?_⟩
  by_cases hc : c = true
  · rw [if_pos hc] at q1 ⊢
    exact k _ _ e1 q1
  · rw [if_neg hc] at q1 ⊢
    exact ⟨N, env, _, f.ext' e1, q1, fun b H2 e2 q2 => k b H2 (e1.trans e2) q2⟩)
theorem dt_not (ha : PT X a (tDT F tA)) : PT X (.UnaryOp .Not a pos) (tDT F (dtNot tA)) := PT.imp (pt_not ha) (by
  rintro σ H Q ⟨N, env, Qd, f, hT, k⟩
  exact ⟨N, env, _, f, hT, fun c H1 e1 q1 => k _ H1 e1 q1⟩)
def dAnd (Ta Tb : TDE) : TDE := fun ξ env Q => dTest Ta ξ env fun c => if c = true then Tb ξ env Q else Q (.bl false)
def dOr (Ta Tb : TDE) : TDE := fun ξ env Q => dTest Ta ξ env fun c => if c = true then Q (.bl true) else Tb ξ env Q
def dNot (Ta : TDE) : TDE := fun ξ env Q => dTest Ta ξ env fun c => Q (.bl (!c))
theorem d_one {op} (h : PE X a (tD F Ta)) : PE X (.BoolOp op [a] pos) (tD F Ta) := pe_one h
theorem d_and (ha : PE X a (tD F Ta)) (hb : PE X (.BoolOp .And (b :: rest) pos) (tD F Tb)) : PE X (.BoolOp .And (a :: b :: rest) pos) (tD F (dAnd Ta Tb)) := PE.imp (pe_and ha hb) (by
  rintro σ H Q ⟨N, env, Qd, f, hT, k⟩
  refine ⟨N, env, _, f, hT, fun x H1 dx e1 r1 q1 => ?_⟩
  obtain ⟨c, rfl, q9⟩ := bl_of q1
  refine ⟨c, r1, ?_⟩
  by_cases hc : c = true
  · rw [if_pos hc] at q9 ⊢
    exact ⟨N, env, _, f.ext' e1, q9, fun v H2 d e2 r2 q2 => k v H2 d (e1.trans e2) r2 q2⟩
  · rw [if_neg hc] at q9 ⊢
    exact k _ _ _ e1 rep_bl q9)
theorem d_or (ha : PE X a (tD F Ta)) (hb : PE X (.BoolOp .Or (b :: rest) pos) (tD F Tb)) : PE X (.BoolOp .Or (a :: b :: rest) pos) (tD F (dOr Ta Tb)) := PE.imp (pe_or ha hb) (by
  rintro σ H Q ⟨N, env, Qd, f, hT, k⟩
  refine ⟨N, env, _, f, hT, fun x H1 dx e1 r1 q1 => ?_⟩
  obtain ⟨c, rfl, q9⟩ := bl_of q1
  refine ⟨c, r1, ?_⟩
  by_cases hc : c = true
  · rw [if_pos hc] at q9 ⊢
    exact k _ _ _ e1 rep_bl q9
  · rw [if_neg hc] at q9 ⊢
    exact ⟨N, env, _, f.ext' e1, q9, fun v H2 d e2 r2 q2 => k v H2 d (e1.trans e2) r2 q2⟩)
theorem d_not (ha : PE X a (tD F Ta)) : PE X (.UnaryOp .Not a pos) (tD F (dNot Ta)) := PE.imp (pe_not ha) (by
  rintro σ H Q ⟨N, env, Qd, f, hT, k⟩
  refine ⟨N, env, _, f, hT, fun x H1 dx e1 r1 q1 => ?_⟩
  obtain ⟨c, rfl, q9⟩ := bl_of q1
  exact ⟨c, r1, k _ _ _ e1 rep_bl q9⟩)
def dIf (t : TDT) (Ta Tb : TDE) : TDE := fun ξ env Q => t ξ env fun c => if c = true then Ta ξ env Q else Tb ξ env Q
theorem d_if (hc : PT X c (tDT F tA)) (ha : PE X a (tD F Ta)) (hb : PE X b (tD F Tb)) : PE X (.IfExp c a b pos) (tD F (dIf tA Ta Tb)) := PE.imp (pe_ifExp hc ha hb) (by
  rintro σ H Q ⟨N, env, Qd, f, hT, k⟩
  refine ⟨N, env, _, f, hT, fun c H1 e1 q1 => ?_⟩
  by_cases hc : c = true
  · rw [if_pos hc] at q1 ⊢
    exact ⟨N, env, _, f.ext' e1, q1, fun v H2 d e2 r2 q2 => k v H2 d (e1.trans e2) r2 q2⟩
  · rw [if_neg hc] at q1 ⊢
    exact ⟨N, env, _, f.ext' e1, q1, fun v H2 d e2 r2 q2 => k v H2 d (e1.trans e2) r2 q2⟩)

/-! ### unary -/
abbrev G1 := D → (D → Prop) → Prop
def dUn (g : G1) (Ta : TDE) : TDE := fun ξ env Q => Ta ξ env fun x => g x Q
def gNeg : G1 := fun x Q => match x with
  | .int i => Q (.int (-i))
  | _ => False
theorem d_neg (ha : PE X a (tD F Ta)) : PE X (.UnaryOp .USub a pos) (tD F (dUn gNeg Ta)) := PE.imp (pe_un un_neg ha) (by
  rintro σ H Q ⟨N, env, Qd, f, hT, k⟩
  refine ⟨N, env, _, f, hT, fun x H1 dx e1 r1 q1 => ?_⟩
  cases dx <;> first | exact q1.elim | exact ⟨_, r1, k _ _ _ e1 rep_int q1⟩)

/-! ### the operators of ints -/
def gI (C : Int → Int → Prop) (g : Int → Int → D) : G2 := fun x y Q => match x, y with
  | .int i, .int j => C i j ∧ Q (g i j)
  | _, _ => False
def gI0 (g : Int → Int → D) : G2 := fun x y Q => match x, y with
  | .int i, .int j => Q (g i j)
  | _, _ => False
theorem gI_of {C : Int → Int → Prop} {g : Int → Int → D} {x y : D} {Q : D → Prop} (h : gI C g x y Q) : ∃ i j, x = .int i ∧ y = .int j ∧ C i j ∧ Q (g i j) := by
  unfold gI at h
  split at h
  · exact ⟨_, _, rfl, rfl, h⟩
  · exact h.elim
theorem gI0_of {g : Int → Int → D} {x y : D} {Q : D → Prop} (h : gI0 g x y Q) : ∃ i j, x = .int i ∧ y = .int j ∧ Q (g i j) := by
  unfold gI0 at h
  split at h
  · exact ⟨_, _, rfl, rfl, h⟩
  · exact h.elim
theorem opd_I {C : Int → Int → Prop} {g : Int → Int → D} {gv : Int → Int → V} (hg : ∀ i j N H, Rep F.K F.Z N H (g i j) (gv i j)) : OpD F (rI C gv) (gI C g) := ⟨by
  intro N H x y dx dy Qd Q n rx ry h k
  obtain ⟨i, j, rfl, rfl, c, q⟩ := gI_of h
  exact ⟨i, j, rx, ry, c, k _ _ _ Ext.refl (hg i j N H) q⟩⟩
theorem opd_I0 {g : Int → Int → D} {gv : Int → Int → V} (hg : ∀ i j N H, Rep F.K F.Z N H (g i j) (gv i j)) : OpD F (rI0 gv) (gI0 g) := ⟨by
  intro N H x y dx dy Qd Q n rx ry h k
  obtain ⟨i, j, rfl, rfl, q⟩ := gI0_of h
  exact ⟨i, j, rx, ry, k _ _ _ Ext.refl (hg i j N H) q⟩⟩
abbrev gAdd : G2 := gI0 fun i j => .int (i + j)
abbrev gSub : G2 := gI0 fun i j => .int (i - j)
abbrev gMul : G2 := gI CMulW fun i j => .int (i * j)
abbrev gDiv : G2 := gI CDivW fun i j => .int (i / j)
abbrev gMod : G2 := gI (fun _ j => 0 < j) fun i j => .int (i % j)
abbrev gPow : G2 := gI CPow fun i j => .int (i ^ j.toNat)
abbrev gLt : G2 := gI0 fun i j => .bl (decide (i < j))
abbrev gLe : G2 := gI0 fun i j => .bl (decide (i ≤ j))
abbrev gGt : G2 := gI0 fun i j => .bl (decide (j < i))
abbrev gGe : G2 := gI0 fun i j => .bl (decide (j ≤ i))
theorem d_add (ha : PE X a (tD F Ta)) (hb : PE X b (tD F Tb)) : PE X (.BinOp a .Add b pos) (tD F (dBin gAdd Ta Tb)) := d_op op_add (opd_I0 fun _ _ _ _ => rfl) ha hb
theorem d_sub (ha : PE X a (tD F Ta)) (hb : PE X b (tD F Tb)) : PE X (.BinOp a .Sub b pos) (tD F (dBin gSub Ta Tb)) := d_op op_sub (opd_I0 fun _ _ _ _ => rfl) ha hb
theorem d_mul (ha : PE X a (tD F Ta)) (hb : PE X b (tD F Tb)) : PE X (.BinOp a .Mult b pos) (tD F (dBin gMul Ta Tb)) := d_op op_mulW (opd_I fun _ _ _ _ => rfl) ha hb
theorem d_div (ha : PE X a (tD F Ta)) (hb : PE X b (tD F Tb)) : PE X (.BinOp a .FloorDiv b pos) (tD F (dBin gDiv Ta Tb)) := d_op op_fdivW (opd_I fun _ _ _ _ => rfl) ha hb
theorem d_mod (ha : PE X a (tD F Ta)) (hb : PE X b (tD F Tb)) : PE X (.BinOp a .Mod b pos) (tD F (dBin gMod Ta Tb)) := d_op op_mod (opd_I fun _ _ _ _ => rfl) ha hb
theorem d_pow (ha : PE X a (tD F Ta)) (hb : PE X b (tD F Tb)) : PE X (.BinOp a .Pow b pos) (tD F (dBin gPow Ta Tb)) := d_op op_pow (opd_I fun _ _ _ _ => rfl) ha hb
theorem d_lt (ha : PE X a (tD F Ta)) (hb : PE X b (tD F Tb)) : PE X (.Compare a [.Lt] [b] pos) (tD F (dBin gLt Ta Tb)) := d_cmp op_lt (opd_I0 fun _ _ _ _ => rfl) ha hb (nomark _)
theorem d_le (ha : PE X a (tD F Ta)) (hb : PE X b (tD F Tb)) : PE X (.Compare a [.LtE] [b] pos) (tD F (dBin gLe Ta Tb)) := d_cmp op_le (opd_I0 fun _ _ _ _ => rfl) ha hb (nomark _)
theorem d_gt (ha : PE X a (tD F Ta)) (hb : PE X b (tD F Tb)) : PE X (.Compare a [.Gt] [b] pos) (tD F (dBin gGt Ta Tb)) := d_cmp op_gt (opd_I0 fun _ _ _ _ => rfl) ha hb (nomark _)
theorem d_ge (ha : PE X a (tD F Ta)) (hb : PE X b (tD F Tb)) : PE X (.Compare a [.GtE] [b] pos) (tD F (dBin gGe Ta Tb)) := d_cmp op_ge (opd_I0 fun _ _ _ _ => rfl) ha hb (nomark _)
theorem dt_lt (ha : PE X a (tD F Ta)) (hb : PE X b (tD F Tb)) : PT X (.Compare a [.Lt] [b] pos) (tDT F (dTest (dBin gLt Ta Tb))) := dt_cmp op_lt (opd_I0 fun _ _ _ _ => rfl) ha hb (nomark _)
theorem dt_le (ha : PE X a (tD F Ta)) (hb : PE X b (tD F Tb)) : PT X (.Compare a [.LtE] [b] pos) (tDT F (dTest (dBin gLe Ta Tb))) := dt_cmp op_le (opd_I0 fun _ _ _ _ => rfl) ha hb (nomark _)
theorem dt_gt (ha : PE X a (tD F Ta)) (hb : PE X b (tD F Tb)) : PT X (.Compare a [.Gt] [b] pos) (tDT F (dTest (dBin gGt Ta Tb))) := dt_cmp op_gt (opd_I0 fun _ _ _ _ => rfl) ha hb (nomark _)
theorem dt_ge (ha : PE X a (tD F Ta)) (hb : PE X b (tD F Tb)) : PT X (.Compare a [.GtE] [b] pos) (tDT F (dTest (dBin gGe Ta Tb))) := dt_cmp op_ge (opd_I0 fun _ _ _ _ => rfl) ha hb (nomark _)

/-! ### == -/
mutual
/-- the library's data -/
def toP : D → PyData
  | .non => .none
  | .bl b => .bool b
  | .int i => .int i
  | .str x => .str x
  | .tup ds => .tuple (toPs ds)
  | .lst ds => .list (toPs ds)
  | .dct ks ds => .dict (toPk ks ds)
  | .deck => .none
  | .ty _ => .none
  | .kt ds => .tuple (toPs ds)
  | .ins _ _ _ => .none
def toPs : List D → List PyData
  | [] => []
  | d :: ds => toP d :: toPs ds
def toPk : List Key → List D → List (PyData × PyData)
  | k :: ks, d :: ds => ((match k with | .inl i => PyData.int i | .inr x => PyData.str x), toP d) :: toPk ks ds
  | _, _ => []
end
mutual
def plain : D → Bool
  | .tup ds => plains ds
  | .lst ds => plains ds
  | .dct _ _ => false
  | .deck => false
  | .ty _ => false
  | .kt ds => plains ds
  | .ins _ _ _ => false
  | _ => true
def plains : List D → Bool
  | [] => true
  | d :: ds => plain d && plains ds
end
section
variable {K : PySem.W.Frag} {Z : Zn} {N : Addr → Prop} {H : Hp}
theorem sqt_of {a : Addr} {vs : List V} (h : (¬ N a ∧ H a = some (.tup vs)) ∨ SqT K NK a vs) : SqT K H a vs := by
  rcases h with ⟨_, h⟩ | h
  · exact .inl (.inl h)
  · rcases h with (h | ⟨o, h⟩) | h
    · cases h
    · cases h
    · exact .inr h
mutual
theorem Rep.dp : ∀ (d : D) (v : V), plain d = true → Rep K Z N H d v → Dp K H v (toP d)
  | .non, _, _, h => by rw [show _ = V.non from h]; exact .non
  | .bl b, _, _, h => by rw [show _ = V.bl b from h]; exact .bl b
  | .int i, _, _, h => by rw [show _ = V.int i from h]; exact .int i
  | .str x, _, _, h => by rw [show _ = V.str x from h]; exact .str x
  | .tup ds, _, p, h => by
    obtain ⟨a, vs, rfl, r, q⟩ := h
    exact .tup (sqt_of r) (Reps.dp ds vs p q)
  | .lst ds, _, p, h => by
    obtain ⟨a, vs, rfl, _, r, q⟩ := h
    exact .lst (SqL.of r) (Reps.dp ds vs p q)
  | .dct _ _, _, p, _ => by cases p
  | .deck, _, p, _ => by cases p
  | .ty _, _, p, _ => by cases p
  | .ins _ _ _, _, p, _ => by cases p
  | .kt ds, _, p, h => by
    obtain ⟨a, vs, o, rfl, _, r, _, q⟩ := h
    exact .tup (.inl (.inr ⟨o, r⟩)) (Reps.dp ds vs p q)
theorem Reps.dp : ∀ (ds : List D) (vs : List V), plains ds = true → Reps K Z N H ds vs → DpAll K H vs (toPs ds)
  | [], _, _, h => by cases h; exact .nil
  | d :: ds, _, p, h => by
    obtain ⟨v, r, rfl, h1, h2⟩ := h
    obtain ⟨p1, p2⟩ := Bool.and_eq_true_iff.mp p
    exact .cons (Rep.dp d v p1 h1) (Reps.dp ds r p2 h2)
end
end
/-- data that can be compared -/
def eqOk (d : D) : Bool := plain d && SeqAt.shaped (toP d)
def gEq : G2 := fun x y Q => match x, y with
  | .int i, .int j => Q (.bl (decide (i = j)))
  | .str i, .str j => Q (.bl (decide (i = j)))
  | x, y => (eqOk x = true ∧ eqOk y = true) ∧ Q (.bl (PyData.eqv (toP x) (toP y)))
def gNe : G2 := fun x y Q => match x, y with
  | .int i, .int j => Q (.bl (!decide (i = j)))
  | .str i, .str j => Q (.bl (!decide (i = j)))
  | x, y => (eqOk x = true ∧ eqOk y = true) ∧ Q (.bl (!PyData.eqv (toP x) (toP y)))
theorem opd_eq : OpD F (fun x y H Q => rEqD F.K x y H Q ∨ rEq x y H Q) gEq := ⟨by
  intro N H x y dx dy Qd Q n rx ry h k
  unfold gEq at h
  split at h
  · rename_i i j
    cases (show x = .int i from rx)
    cases (show y = .int j from ry)
    refine .inr ⟨rfl, k _ _ _ Ext.refl rep_bl ?_⟩
    rw [dec_int, Bool.beq_eq_decide_eq]
    exact h
  · rename_i i j
    cases (show x = .str i from rx)
    cases (show y = .str j from ry)
    refine .inr ⟨rfl, k _ _ _ Ext.refl rep_bl ?_⟩
    rw [dec_str, Bool.beq_eq_decide_eq]
    exact h
  · obtain ⟨⟨h1, h2⟩, q⟩ := h
    obtain ⟨p1, s1⟩ := Bool.and_eq_true_iff.mp h1
    obtain ⟨p2, s2⟩ := Bool.and_eq_true_iff.mp h2
    exact .inl ⟨_, _, Rep.dp dx x p1 rx, Rep.dp dy y p2 ry, s1, s2, k _ _ _ Ext.refl rep_bl q⟩⟩
theorem opd_ne : OpD F (fun x y H Q => rNeD F.K x y H Q ∨ rNe x y H Q) gNe := ⟨by
  intro N H x y dx dy Qd Q n rx ry h k
  unfold gNe at h
  split at h
  · rename_i i j
    cases (show x = .int i from rx)
    cases (show y = .int j from ry)
    refine .inr ⟨rfl, k _ _ _ Ext.refl rep_bl ?_⟩
    rw [dec_int, Bool.beq_eq_decide_eq]
    exact h
  · rename_i i j
    cases (show x = .str i from rx)
    cases (show y = .str j from ry)
    refine .inr ⟨rfl, k _ _ _ Ext.refl rep_bl ?_⟩
    rw [dec_str, Bool.beq_eq_decide_eq]
    exact h
  · obtain ⟨⟨h1, h2⟩, q⟩ := h
    obtain ⟨p1, s1⟩ := Bool.and_eq_true_iff.mp h1
    obtain ⟨p2, s2⟩ := Bool.and_eq_true_iff.mp h2
    exact .inl ⟨_, _, Rep.dp dx x p1 rx, Rep.dp dy y p2 ry, s1, s2, k _ _ _ Ext.refl rep_bl q⟩⟩
theorem d_eq (hK : F.K = X.K) (hu : X.A.units + 64 < cLine) (ha : PE X a (tD F Ta)) (hb : PE X b (tD F Tb)) : PE X (.Compare a [.Eq] [b] pos) (tD F (dBin gEq Ta Tb)) := by
  have o := opd_eq (F := F)
  rw [hK] at o
  exact d_cmp ((op_eqD hu).or op_eq) o ha hb (nomark _)
theorem d_ne (hK : F.K = X.K) (hu : X.A.units + 64 < cLine) (ha : PE X a (tD F Ta)) (hb : PE X b (tD F Tb)) : PE X (.Compare a [.NotEq] [b] pos) (tD F (dBin gNe Ta Tb)) := by
  have o := opd_ne (F := F)
  rw [hK] at o
  exact d_cmp ((op_neD hu).or op_ne) o ha hb (nomark _)
theorem dt_eq (hK : F.K = X.K) (hu : X.A.units + 64 < cLine) (ha : PE X a (tD F Ta)) (hb : PE X b (tD F Tb)) : PT X (.Compare a [.Eq] [b] pos) (tDT F (dTest (dBin gEq Ta Tb))) := by
  have o := opd_eq (F := F)
  rw [hK] at o
  exact dt_cmp ((op_eqD hu).or op_eq) o ha hb (nomark _)
theorem dt_ne (hK : F.K = X.K) (hu : X.A.units + 64 < cLine) (ha : PE X a (tD F Ta)) (hb : PE X b (tD F Tb)) : PT X (.Compare a [.NotEq] [b] pos) (tDT F (dTest (dBin gNe Ta Tb))) := by
  have o := opd_ne (F := F)
  rw [hK] at o
  exact dt_cmp ((op_neD hu).or op_ne) o ha hb (nomark _)

/-! ### argument lists, displays -/
def dNil : TDA := fun _ _ Q => Q []
def dCons (Ta : TDE) (Tr : TDA) : TDA := fun ξ env Q => Ta ξ env fun x => Tr ξ env fun xs => Q (x :: xs)
theorem da_nil : PA X [] (tDA F dNil) := PA.imp pa_nil (by
  rintro σ H Q ⟨N, env, Qd, f, hT, k⟩
  exact k [] H [] Ext.refl rfl hT)
theorem tCons_imp {Tr : TDA} : ∀ σ H Q, tDA F (dCons Ta Tr) σ H Q → tCons (tD F Ta) (tDA F Tr) σ H Q := by
  rintro σ H Q ⟨N, env, Qd, f, hT, k⟩
  refine ⟨N, env, _, f, hT, fun x H1 dx e1 r1 q1 => ?_⟩
  exact ⟨N, env, _, f.ext' e1, q1, fun xs H2 ds e2 r2 q2 => k _ H2 (dx :: ds) (e1.trans e2) ⟨x, xs, rfl, r1.ext e2 f.n.z, r2⟩ q2⟩
theorem da_cons {Tr : TDA} (ha : PE X e (tD F Ta)) (hr : PA X es (tDA F Tr)) (hs : starEach (e :: es) X.env = (false, eval e X.env) :: starEach es X.env := by rfl) : PA X (e :: es) (tDA F (dCons Ta Tr)) :=
  PA.imp (pa_cons ha hr hs) tCons_imp
def dTup (T : TDA) : TDE := fun ξ env Q => T ξ env fun ds => ds.length ≤ sizeLine ∧ Q (.tup ds)
def dLst (T : TDA) : TDE := fun ξ env Q => T ξ env fun ds => ds.length ≤ sizeLine ∧ Q (.lst ds)
theorem rep_newT {N : Addr → Prop} {H : Hp} {p : Addr} {vs : List V} {ds : List D} (n : NOk F N H) (hp : H p = none) (r : Reps F.K F.Z N H ds vs) : Rep F.K F.Z N (upd H p (.tup vs)) (.tup ds) (.ref p) :=
  ⟨p, vs, rfl, .inl ⟨n.fresh hp, upd_same⟩, r.ext (n.lay hp) n.z⟩
theorem rep_newL {N : Addr → Prop} {H : Hp} {p : Addr} {vs : List V} {ds : List D} (n : NOk F N H) (hp : H p = none) (r : Reps F.K F.Z N H ds vs) : Rep F.K F.Z N (upd H p (.lst vs)) (.lst ds) (.ref p) :=
  ⟨p, vs, rfl, n.fresh hp, upd_same, r.ext (n.lay hp) n.z⟩
theorem d_tup {x1 : _} (h : PA X es (tDA F Tas)) : PE X (.Tuple es x1 pos) (tD F (dTup Tas)) := PE.imp (pe_tup h) (by
  rintro σ H Q ⟨N, env, Qd, f, hT, k⟩
  refine ⟨N, env, _, f, hT, fun vs H1 ds e1 r1 q1 => ⟨by rw [← r1.length]; exact q1.1, fun p hp => ?_⟩⟩
  have n := (f.ext' e1).n
  exact k _ _ (.tup ds) (e1.trans (n.lay hp)) (rep_newT n hp r1) q1.2)
theorem d_lst (h : PA X es (tDA F Tas)) : PE X (.List es pos) (tD F (dLst Tas)) := PE.imp (pe_lst h) (by
  rintro σ H Q ⟨N, env, Qd, f, hT, k⟩
  refine ⟨N, env, _, f, hT, fun vs H1 ds e1 r1 q1 => ⟨by rw [← r1.length]; exact q1.1, fun p hp => ?_⟩⟩
  have n := (f.ext' e1).n
  exact k _ _ (.lst ds) (e1.trans (n.lay hp)) (rep_newL n hp r1) q1.2)

/-! ### subscripts -/
def gIx : G2 := fun x y Q => match x, y with
  | .tup ds, .int i => match atI ds i with
    | some d => Q d
    | none => False
  | .lst ds, .int i => match atI ds i with
    | some d => Q d
    | none => False
  | _, _ => False
theorem atI_rep {N : Addr → Prop} {H : Hp} {ds : List D} {vs : List V} {i : Int} {d : D} (r : Reps F.K F.Z N H ds vs) (h : atI ds i = some d) : ∃ v, atI vs i = some v ∧ Rep F.K F.Z N H d v := by
  unfold atI at h ⊢
  rw [← r.length]
  cases q : ixN ds.length i with
  | none => rw [q] at h; cases h
  | some j =>
    rw [q] at h
    obtain ⟨v, h1, h2⟩ := r.get (i := j) h
    exact ⟨v, h1, h2⟩
theorem opd_ix : OpD F (rIx F.K) gIx := ⟨by
  intro N H x y dx dy Qd Q n rx ry h k
  unfold gIx at h
  split at h
  · rename_i ds i
    split at h
    · rename_i d hd
      obtain ⟨a, vs, rfl, r, q⟩ := rx
      obtain ⟨v, h1, h2⟩ := atI_rep q hd
      exact .inr (.inl ⟨a, vs, i, v, rfl, ry, sqt_of r, h1, k _ _ _ Ext.refl h2 h⟩)
    · exact h.elim
  · rename_i ds i
    split at h
    · rename_i d hd
      obtain ⟨a, vs, rfl, _, r, q⟩ := rx
      obtain ⟨v, h1, h2⟩ := atI_rep q hd
      exact .inl ⟨a, vs, i, v, rfl, ry, SqL.of r, h1, k _ _ _ Ext.refl h2 h⟩
    · exact h.elim
  · exact h.elim⟩
theorem d_ix (hK : F.K = X.K) (ha : PE X a (tD F Ta)) (hb : PE X b (tD F Tb)) (hs : PlainIx b) : PE X (.Subscript a b pos) (tD F (dBin gIx Ta Tb)) := by
  have o := opd_ix (F := F)
  rw [hK] at o
  exact PE.imp (pe_ix ix_seq ha hb hs) (tOp_imp o)

/-! ### built-in functions -/
abbrev GA := List D → (D → Prop) → Prop
structure CallD (F : FP) (r : List V → Hp → VK → Prop) (g : GA) : Prop where
  ok : ∀ N H vs ds Qd (Q : VK), NOk F N H → Reps F.K F.Z N H ds vs → g ds Qd → (∀ v H' d, Ext F.Z H H' → Rep F.K F.Z N H' d v → Qd d → Q v H') → r vs H Q
def dCB (g : GA) (T : TDA) : TDE := fun ξ env Q => T ξ env fun ds => g ds Q
theorem tCB_imp {r : List V → Hp → VK → Prop} {g : GA} (hg : CallD F r g) : ∀ σ H Q, tD F (dCB g Tas) σ H Q → tCB r (tDA F Tas) σ H Q := by
  rintro σ H Q ⟨N, env, Qd, f, hT, k⟩
  refine ⟨N, env, _, f, hT, fun vs H1 ds e1 r1 q1 => ?_⟩
  exact hg.ok N H1 vs ds _ _ (f.ext' e1).n r1 q1 fun v H2 d e2 r2 q2 => k v H2 d (e1.trans e2) r2 q2
variable {x : Str} {p : Pos} {bid T : String} {r : List V → Hp → VK → Prop} {g : GA}
theorem d_callB (hg' : CallD F r g) (hc : CallR X (.builtin bid) r) (hg : Gl X x) (hm : X.mg x = none) (hv : bootBuiltins x = some (.builtin bid)) (ha : PA X (e :: es) (tDA F Tas)) (hn : x ≠ "__name__" := by decide) (hdb : (x == ("__debug__" : Str)) = false := by decide)
    (he : starEach (e :: es) X.env = (false, eval e X.env) :: starEach es X.env := by rfl) (hpl : (backTo pos (starEach es X.env)).any (·.1) = false := by rfl) : PE X (.Call (.Name x p) (e :: es) [] pos) (tD F (dCB g Tas)) :=
  PE.imp (pe_callB hc hg hm hv ha hn hdb he hpl) (tCB_imp hg')
theorem d_callTy (hg' : CallD F r g) (hc : CallR X (.type T) r) (hg : Gl X x) (hm : X.mg x = none) (hv : bootBuiltins x = some (.type T)) (ha : PA X (e :: es) (tDA F Tas)) (hn : x ≠ "__name__" := by decide) (hdb : (x == ("__debug__" : Str)) = false := by decide)
    (he : starEach (e :: es) X.env = (false, eval e X.env) :: starEach es X.env := by rfl) (hpl : (backTo pos (starEach es X.env)).any (·.1) = false := by rfl) : PE X (.Call (.Name x p) (e :: es) [] pos) (tD F (dCB g Tas)) :=
  PE.imp (pe_callTy hc hg hm hv ha hn hdb he hpl) (tCB_imp hg')
def gAbs : GA := fun xs Q => match xs with
  | [.int i] => Q (.int (if i < 0 then -i else i))
  | _ => False
theorem cd_abs : CallD F (fun xs H Q => ∃ i, xs = [.int i] ∧ Q (.int (if i < 0 then -i else i)) H) gAbs := ⟨by
  intro N H vs ds Qd Q n r h k
  unfold gAbs at h
  split at h
  · obtain ⟨v, r, rfl, h1, h2⟩ := r
    cases h2
    exact ⟨_, by rw [show v = _ from h1], k _ _ _ Ext.refl rep_int h⟩
  · exact h.elim⟩
def gLen : GA := fun xs Q => match xs with
  | [.tup ds] => Q (.int ds.length)
  | [.lst ds] => Q (.int ds.length)
  | _ => False
theorem cd_len : CallD F (fun xs H Q => ∃ p ys, xs = [.ref p] ∧ (SqL F.K H p ys ∨ SqT F.K H p ys) ∧ Q (.int ys.length) H) gLen := ⟨by
  intro N H vs ds Qd Q n r h k
  unfold gLen at h
  split at h
  · obtain ⟨v, r, rfl, h1, h2⟩ := r
    cases h2
    obtain ⟨a, vs, rfl, r, q⟩ := h1
    exact ⟨a, vs, rfl, .inr (sqt_of r), k _ _ _ Ext.refl rep_int (by rw [← q.length]; exact h)⟩
  · obtain ⟨v, r, rfl, h1, h2⟩ := r
    cases h2
    obtain ⟨a, vs, rfl, _, r, q⟩ := h1
    exact ⟨a, vs, rfl, .inl (SqL.of r), k _ _ _ Ext.refl rep_int (by rw [← q.length]; exact h)⟩
  · exact h.elim⟩
/-- int(n), int(flag) -/
def gInt : GA := fun xs Q => match xs with
  | [.int i] => Q (.int i)
  | [.bl b] => Q (.int (if b then 1 else 0))
  | _ => False
theorem cd_int : CallD F (fun xs H Q => (∃ i, xs = [.int i] ∧ Q (.int i) H) ∨ ∃ k, xs = [.bl k] ∧ Q (.int (if k then 1 else 0)) H) gInt := ⟨by
  intro N H vs ds Qd Q n r h k
  unfold gInt at h
  split at h
  · obtain ⟨v, r, rfl, h1, h2⟩ := r
    cases h2
    exact .inl ⟨_, by rw [show v = _ from h1], k _ _ _ Ext.refl rep_int h⟩
  · obtain ⟨v, r, rfl, h1, h2⟩ := r
    cases h2
    exact .inr ⟨_, by rw [show v = _ from h1], k _ _ _ Ext.refl rep_int h⟩
  · exact h.elim⟩
/-- all([..]) -/
def blsOf : List D → Option (List Bool)
  | [] => some []
  | .bl b :: ds => (blsOf ds).map (b :: ·)
  | _ :: _ => none
theorem blsOf_eq : ∀ {ds : List D} {bs : List Bool}, blsOf ds = some bs → ds = bs.map D.bl
  | [], bs, h => by simp [blsOf] at h; subst h; rfl
  | d :: ds, bs, h => by
    cases d <;> first | (simp [blsOf] at h; done) | skip
    rename_i b
    simp only [blsOf, Option.map_eq_some_iff] at h
    obtain ⟨r, h1, h2⟩ := h
    rw [← h2, blsOf_eq h1]; rfl
def gAll : GA := fun xs Q => match xs with
  | [.lst ds] => match blsOf ds with
    | some bs => Q (.bl (bs.all id))
    | none => False
  | _ => False
def gAny : GA := fun xs Q => match xs with
  | [.lst ds] => match blsOf ds with
    | some bs => Q (.bl (bs.any id))
    | none => False
  | _ => False
theorem cd_all : CallD F (fun vs H Q => ∃ (a : Addr) (bs : List Bool), vs = [V.ref a] ∧ SqL F.K H a (bs.map V.bl) ∧ Q (.bl (bs.all id)) H) gAll := ⟨by
  intro N H vs ds Qd Q n r h k
  unfold gAll at h
  split at h
  · split at h
    · rename_i ds bs hb
      obtain ⟨v, r, rfl, h1, h2⟩ := r
      cases h2
      obtain ⟨a, vs, rfl, _, r, q⟩ := h1
      rw [blsOf_eq hb] at q
      rw [q.bls] at r
      exact ⟨a, bs, rfl, SqL.of r, k _ _ _ Ext.refl rep_bl h⟩
    · exact h.elim
  · exact h.elim⟩
/-- isinstance(x, T) of the built-in types that occur -/
inductive PyT where
  | int | bool | tuple | list | str | dict
def PyT.name : PyT → String
  | .int => "int"
  | .bool => "bool"
  | .tuple => "tuple"
  | .list => "list"
  | .str => "str"
  | .dict => "dict"
def isD : PyT → D → Bool
  | .int, .int _ => true
  | .int, .bl _ => true
  | .bool, .bl _ => true
  | .tuple, .tup _ => true
  | .tuple, .kt _ => true
  | .list, .lst _ => true
  | .dict, .dct _ _ => true
  | .str, .str _ => true
  | _, _ => false
def typed : D → Bool
  | .deck => false
  | .ty _ => false
  | _ => true
def gIsi (T : PyT) : GA := fun xs Q => match xs with
  | [x, _] => typed x = true ∧ Q (.bl (isD T x))
  | _ => False
theorem kt {K : PySem.W.Frag} {a b : String} {r r' : Bool} (h : kitB a b = some r) (e : r = r') : PySem.W.kitOne K (.type a) (.type b) = some r' := e ▸ kit_ty h
theorem kt_non : ∀ T : PyT, kitB "NoneType" T.name = some false := fun T => by cases T <;> decide +kernel
theorem kt_str : ∀ T : PyT, kitB "str" T.name = some (isD T (.str Str.empty)) := fun T => by cases T <;> decide +kernel
theorem kt_bl : ∀ T : PyT, kitB "bool" T.name = some (isD T (.bl true)) := fun T => by cases T <;> decide +kernel
theorem kt_int : ∀ T : PyT, kitB "int" T.name = some (isD T (.int 0)) := fun T => by cases T <;> decide +kernel
theorem kt_tup : ∀ T : PyT, kitB "tuple" T.name = some (isD T (.tup [])) := fun T => by cases T <;> decide +kernel
theorem kt_lst : ∀ T : PyT, kitB "list" T.name = some (isD T (.lst [])) := fun T => by cases T <;> decide +kernel
theorem kt_dct : ∀ T : PyT, kitB "dict" T.name = some (isD T (.dct [] [])) := fun T => by cases T <;> decide +kernel
theorem tyx_of {N : Addr → Prop} {H : Hp} : ∀ {d : D} {v : V}, typed d = true → Rep F.K F.Z N H d v → ∃ t, TyX F.K H v t ∧ ∀ T : PyT, PySem.W.kitOne F.K t (.type T.name) = some (isD T d)
  | .non, v, _, h => ⟨.type "NoneType", by rw [show v = _ from h]; exact .base .non, fun T => kt (kt_non T) (by cases T <;> rfl)⟩
  | .bl b, v, _, h => ⟨.type "bool", by rw [show v = _ from h]; exact .base (.bl b), fun T => kt (kt_bl T) (by cases T <;> rfl)⟩
  | .int b, v, _, h => ⟨.type "int", by rw [show v = _ from h]; exact .base (.int b), fun T => kt (kt_int T) (by cases T <;> rfl)⟩
  | .str b, v, _, h => ⟨.type "str", by rw [show v = _ from h]; exact .base (.str b), fun T => kt (kt_str T) (by cases T <;> rfl)⟩
  | .tup ds, v, _, h => by
    obtain ⟨a, vs, rfl, r, q⟩ := h
    refine ⟨.type "tuple", ?_, fun T => kt (kt_tup T) (by cases T <;> rfl)⟩
    rcases r with ⟨_, r⟩ | (r | ⟨_, r⟩) | ⟨o, _, _, h1, h2, _⟩
    · exact .base (.tup r)
    · cases r
    · cases r
    · exact .kTuple h1 h2
  | .lst ds, v, _, h => by
    obtain ⟨a, vs, rfl, _, r, q⟩ := h
    exact ⟨.type "list", .base (.lst r), fun T => kt (kt_lst T) (by cases T <;> rfl)⟩
  | .dct ks ds, v, _, h => by
    obtain ⟨a, vs, rfl, _, r, _, q⟩ := h
    exact ⟨.type "dict", .base (.dK r), fun T => kt (kt_dct T) (by cases T <;> rfl)⟩
  | .deck, _, p, _ => by cases p
  | .ty _, _, p, _ => by cases p
  | .kt ds, v, _, h => by
    obtain ⟨a, vs, o, rfl, _, r, _, q⟩ := h
    exact ⟨.type "tuple", .fTuple r, fun T => DL.kt (kt_tup T) (by cases T <;> rfl)⟩
  | .ins c fs ds, v, _, h => by
    obtain ⟨a, dx, vs, rfl, _, r, _, i, q⟩ := h
    exact ⟨_, .base (.ins r i.cls i.ca i.cn i.ct i.cm), fun T => by cases T <;> exact i.kit _ (by simp [PyT.name])⟩
theorem cd_isi (T : PyT) : CallD F (fun xs H Q => (∃ (x c : V), xs = [x, c] ∧ c = .ty T.name) → rIsi F.K xs H Q) (gIsi T) := ⟨by
  intro N H vs ds Qd Q n r h k
  rintro ⟨x, c, rfl, rfl⟩
  unfold gIsi at h
  split at h
  · rename_i dx dc
    obtain ⟨v, r1, e1, h1, h2⟩ := r
    cases e1
    obtain ⟨t, h3, h4⟩ := tyx_of h.1 h1
    exact ⟨x, _, _, _, _, rfl, .ty _, h3, h4 T, k _ _ _ Ext.refl rep_bl h.2⟩
  · exact h.elim⟩
end
end DL
set_option Elab.async false
set_option linter.all false
set_option maxRecDepth 100000
namespace DL
open PySem PySem.Spec L2
open PyProof.Rows hiding St

section
variable {X : Cx} {F : FP} {e a b c : Expr} {es : List Expr} {st : Stmt} {rest : List Stmt} {pos : Pos} {Ta Tb Tc : TDE} {Tas : TDA} {T U : TDS}

theorem EndsOk.of {N0 : Addr → Prop} {H0 : Hp} {N : Addr → Prop} {H : Hp} {Dd : DEnds} {De : Ends} (ok : EndsOk F N0 H0 Dd De) (v : Evo N0 H0 N H) : EndsOk F N H Dd De :=
  ⟨fun N' σ H' env f e => ok.nx N' σ H' env f (v.trans e), ok.rt, fun N' σ H' env f e => ok.bk N' σ H' env f (v.trans e), fun N' σ H' env f e => ok.ct N' σ H' env f (v.trans e)⟩

/-! ### blocks -/
def dNext : TDS := fun _ De env => De.nx env
def dSeq (t u : TDS) : TDS := fun ξ De env => t ξ { De with nx := u ξ De } env
theorem ds_nil : PSs X [] (sD F dNext) := PSs.imp pss_nil (by
  rintro De σ H ⟨N, env, Dd, f, hT, ok⟩
  exact ok.nx _ _ _ _ f .refl hT)
theorem ds_pass : PS X (.Pass pos) (sD F dNext) := PS.imp ps_pass (by
  rintro De σ H ⟨N, env, Dd, f, hT, ok⟩
  exact ok.nx _ _ _ _ f .refl hT)
theorem ds_cons (h1 : PS X st (sD F T)) (h2 : PSs X rest (sD F U)) : PSs X (st :: rest) (sD F (dSeq T U)) := PSs.imp (pss_cons h1 h2) (by
  rintro De σ H ⟨N, env, Dd, f, hT, ok⟩
  exact ⟨N, env, { Dd with nx := U F.ex Dd }, f, hT, ⟨fun N' σ' H' env' f' v hu => ⟨N', env', Dd, f', hu, ok.of v⟩, ok.rt, ok.bk, ok.ct⟩⟩)
theorem ds_one (h1 : PS X st (sD F T)) : PSs X [st] (sD F T) := pss_one h1
def dBreak : TDS := fun _ De env => De.bk env
def dCont : TDS := fun _ De env => De.ct env
theorem ds_break : PS X (.Break pos) (sD F dBreak) := PS.imp ps_break (by
  rintro De σ H ⟨N, env, Dd, f, hT, ok⟩
  exact ok.bk _ _ _ _ f .refl hT)
theorem ds_continue : PS X (.Continue pos) (sD F dCont) := PS.imp ps_continue (by
  rintro De σ H ⟨N, env, Dd, f, hT, ok⟩
  exact ok.ct _ _ _ _ f .refl hT)
def dDrop (T : TDE) : TDS := fun ξ De env => T ξ env fun _ => De.nx env
theorem ds_expr (he : PE X e (tD F Ta)) (hs : swapsWith e none pos.line X.env = pure false := by rfl) : PS X (.Expr e pos) (sD F (dDrop Ta)) := PS.imp (ps_expr he hs) (by
  rintro De σ H ⟨N, env, Dd, f, hT, ok⟩
  exact ⟨N, env, _, f, hT, fun v H' d e1 r q => ok.nx _ _ _ _ (f.ext' e1) (.of f.n e1) q⟩)
def dRet (T : TDE) : TDS := fun ξ De env => T ξ env De.rt
theorem ds_ret (he : PE X e (tD F Ta)) : PS X (.Return (some e) pos) (sD F (dRet Ta)) := PS.imp (ps_ret he) (by
  rintro De σ H ⟨N, env, Dd, f, hT, ok⟩
  exact ⟨N, env, _, f, hT, fun v H' d e1 r q => ok.rt v H' d (f.n.ext.trans e1) (r.less f.n.sub) q⟩)
def dRetN : TDS := fun _ De _ => De.rt .non
theorem ds_retN : PS X (.Return none pos) (sD F dRetN) := PS.imp ps_retN (by
  rintro De σ H ⟨N, env, Dd, f, hT, ok⟩
  exact ok.rt _ _ _ f.n.ext rep_non hT)
def dIfS (c : TDT) (t u : TDS) : TDS := fun ξ De env => c ξ env fun b => if b = true then t ξ De env else u ξ De env
theorem ds_if {c : Expr} {a b : List Stmt} {tc : TDT} (hc : PT X c (tDT F tc)) (ha : PSs X a (sD F T)) (hb : PSs X b (sD F U)) : PS X (.If c a b pos) (sD F (dIfS tc T U)) := PS.imp (ps_if hc ha hb) (by
  rintro De σ H ⟨N, env, Dd, f, hT, ok⟩
  refine ⟨N, env, _, f, hT, fun k H1 e1 q1 => ?_⟩
  by_cases hk : k = true
  · rw [if_pos hk] at q1 ⊢
    exact ⟨N, env, Dd, f.ext' e1, q1, ok.of (.of f.n e1)⟩
  · rw [if_neg hk] at q1 ⊢
    exact ⟨N, env, Dd, f.ext' e1, q1, ok.of (.of f.n e1)⟩)
/-- never come to -/
def dNever : TDS := fun _ _ _ => False
theorem ds_never : PS X st (sD F dNever) := PS.imp ps_never (by
  rintro De σ H ⟨N, env, Dd, f, hT, ok⟩
  exact hT.elim)
theorem dss_never {sts : List Stmt} : PSs X sts (sD F dNever) := PSs.imp pss_never (by
  rintro De σ H ⟨N, env, Dd, f, hT, ok⟩
  exact hT.elim)

/-! ### targets -/
theorem FOk.set {N : Addr → Prop} {σ : L2.St} {H : Hp} {env : SE} (f : FOk F N σ H env) (i : Nat) {x : D} {v : V} (r : Rep F.K F.Z N H x v) : FOk F N (σ.set i (some v)) H (env.set i (.d x)) where
  n := f.n
  len := by rw [List.length_set, List.length_set]; exact f.len
  slot := fun j s h => by
    by_cases hj : i = j
    · subst hj
      have hl : i < env.length := by
        have := (List.getElem?_eq_some_iff.mp h).1
        rwa [List.length_set] at this
      rw [List.getElem?_set_self hl] at h
      cases h
      exact ⟨v, by rw [List.getElem?_set_self (by rw [f.len]; exact hl)], r⟩
    · rw [List.getElem?_set_ne hj] at h
      rw [List.getElem?_set_ne hj]
      exact f.slot j s h
  apart := fun j k p xs ys hjk h1 h2 h3 h4 => by
    have o : ∀ {j : Nat} {xs : List D}, (env.set i (.d x))[j]? = some (.own xs) → i ≠ j ∧ env[j]? = some (.own xs) := fun {j xs} h => by
      by_cases hj : i = j
      · subst hj
        have hl : i < env.length := by
          have := (List.getElem?_eq_some_iff.mp h).1
          rwa [List.length_set] at this
        rw [List.getElem?_set_self hl] at h
        cases h
      · rw [List.getElem?_set_ne hj] at h
        exact ⟨hj, h⟩
    obtain ⟨n1, h1⟩ := o h1
    obtain ⟨n2, h2⟩ := o h2
    rw [List.getElem?_set_ne n1] at h3
    rw [List.getElem?_set_ne n2] at h4
    exact f.apart j k p xs ys hjk h1 h2 h3 h4
abbrev TDG := D → SE → (SE → Prop) → Prop
abbrev TDGs := List D → SE → (SE → Prop) → Prop
def gD (F : FP) (G : TDG) : TG := fun v σ H Q => ∃ N env d Qd, FOk F N σ H env ∧ Rep F.K F.Z N H d v ∧ G d env Qd ∧ ∀ σ' env', FOk F N σ' H env' → Qd env' → Q σ' H
def gDs (F : FP) (G : TDGs) : TGs := fun vs σ H Q => ∃ N env ds Qd, FOk F N σ H env ∧ Reps F.K F.Z N H ds vs ∧ G ds env Qd ∧ ∀ σ' env', FOk F N σ' H env' → Qd env' → Q σ' H
theorem PG.imp {t t' : TG} (h : PG X e t) (hi : ∀ v σ H Q, t' v σ H Q → t v σ H Q) : PG X e t' := ⟨fun pins s σ H v u Q I r hw => h.run pins s σ H v u Q I r (hi _ _ _ _ hw)⟩
theorem PGs.imp {t t' : TGs} (h : PGs X es t) (hi : ∀ v σ H Q, t' v σ H Q → t v σ H Q) : PGs X es t' := ⟨fun pins s σ H v u Q I r hw => h.run pins s σ H v u Q I r (hi _ _ _ _ hw)⟩
def dgName (i : Nat) : TDG := fun d env Q => Q (env.set i (.d d))
theorem dg_name {i : Nat} (h : PG X e (gName i)) : PG X e (gD F (dgName i)) := PG.imp h (by
  rintro v σ H Q ⟨N, env, d, Qd, f, r, hG, k⟩
  exact k _ _ (f.set i r) hG)
def dgNil : TDGs := fun ds env Q => match ds with
  | [] => Q env
  | _ => False
def dgCons (G : TDG) (Gs : TDGs) : TDGs := fun ds env Q => match ds with
  | d :: r => G d env fun env' => Gs r env' Q
  | [] => False
theorem dgs_nil : PGs X [] (gDs F dgNil) := PGs.imp pgs_nil (by
  rintro v σ H Q ⟨N, env, ds, Qd, f, r, hG, k⟩
  cases ds with
  | nil => exact ⟨r, k _ _ f hG⟩
  | cons d ds => exact hG.elim)
/-- targets that leave the frame's frozen part as it is (names, tuples of names) -/
theorem dgs_cons {G : TDG} {Gs : TDGs} (h1 : PG X e (gD F G)) (h2 : PGs X es (gDs F Gs)) (hc : (assignEach (e :: es) X.env).map (·.2) = assign e X.env :: (assignEach es X.env).map (·.2) := by rfl) : PGs X (e :: es) (gDs F (dgCons G Gs)) := PGs.imp (pgs_cons h1 h2 hc) (by
  rintro v σ H Q ⟨N, env, ds, Qd, f, r, hG, k⟩
  cases ds with
  | nil => exact hG.elim
  | cons d ds =>
    obtain ⟨v0, vr, rfl, r1, r2⟩ := r
    exact ⟨v0, vr, rfl, N, env, d, _, f, r1, hG, fun σ' env' f' q => ⟨N, env', ds, _, f', r2, q, k⟩⟩)
def dgTup (n : Nat) (Gs : TDGs) : TDG := fun d env Q => match d with
  | .tup ds => ds.length = n ∧ Gs ds env Q
  | _ => False
theorem dg_tup {Gs : TDGs} {k n : Nat} (hK : F.K = X.K) (hc : X.calm = true) (h : PGs X es (gDs F Gs)) (hn : (assignEach es X.env).length = n := by rfl) (hst : (assignEach es X.env).findIdx? (·.1) = none := by rfl) :
    PG X (.Tuple es k pos) (gD F (dgTup n Gs)) := PG.imp (pg_tup hc h hn hst) (by
  rintro v σ H Q ⟨N, env, d, Qd, f, r, hG, k⟩
  cases d <;> first | exact hG.elim | skip
  rename_i ds
  obtain ⟨a, vs, rfl, r1, r2⟩ := r
  exact ⟨a, vs, rfl, by rw [← hK]; exact sqt_of r1, by rw [← r2.length]; exact hG.1, N, env, ds, _, f, r2, hG.2, k⟩)
def dAsg (T : TDE) (G : TDG) : TDS := fun ξ De env => T ξ env fun x => G x env De.nx
theorem tAsg_imp {G : TDG} : ∀ De σ H, sD F (dAsg Ta G) De σ H → tAsg (tD F Ta) (gD F G) De σ H := by
  rintro De σ H ⟨N, env, Dd, f, hT, ok⟩
  exact ⟨N, env, _, f, hT, fun v H' d e1 r q => ⟨N, env, d, _, f.ext' e1, r, q, fun σ' env' f' q' => ok.nx _ _ _ _ f' (.of f.n e1) q'⟩⟩
theorem ds_asg {tg : Expr} {G : TDG} (he : PE X e (tD F Ta)) (hg : PG X tg (gD F G)) (hs : swapsWithSole [tg] e pos.line X.env = pure false := by rfl) (hw : swappedStores [tg] e X.env = pure none := by rfl) (h1 : (assignEach [tg] X.env).map (·.2) = [assign tg X.env] := by rfl) : PS X (.Assign [tg] e pos) (sD F (dAsg Ta G)) :=
  PS.imp (ps_asg he hg hs hw h1) tAsg_imp
/-- x = e, x in slot i -/
theorem ds_set {i : Nat} {x : Str} {pos' : Pos} (hN : X.N.Nodup) (hi : X.N[i]? = some x) (hx : Loc X.env.scope x) (he : PE X e (tD F Ta)) (hs : swapsWith e (some (.Name x pos')) pos.line X.env = pure false := by rfl)
    (hf : X.fn x = true ∨ X.env.scope.names.lookup x = some .local := by first | exact .inl rfl | exact .inr rfl | assumption) : PS X (.Assign [.Name x pos'] e pos) (sD F (dAsg Ta (dgName i))) :=
  PS.imp (ps_set hN hi hx he hs hf) (by
  rintro De σ H ⟨N, env, Dd, f, hT, ok⟩
  exact ⟨N, env, _, f, hT, fun v H' d e1 r q => ok.nx _ _ _ _ ((f.ext' e1).set i r) (.of f.n e1) q⟩)
/-- x, y = a, b -/
def dPar (i j : Nat) (Ta : TDA) : TDS := fun ξ De env => Ta ξ env fun ds => match ds with
  | [x, y] => De.nx ((env.set i (.d x)).set j (.d y))
  | _ => False
theorem tPar_imp {i j : Nat} : ∀ De σ H, sD F (dPar i j Tas) De σ H → tPar i j (tDA F Tas) De σ H := by
  rintro De σ H ⟨N, env, Dd, f, hT, ok⟩
  refine ⟨N, env, _, f, hT, fun vs H' ds e1 r q => ?_⟩
  split at q
  · obtain ⟨v, _, rfl, r1, w, _, rfl, r2, r3⟩ := r
    cases r3
    exact ⟨v, w, rfl, ok.nx _ _ _ _ (((f.ext' e1).set i r1).set j r2) (.of f.n e1) q⟩
  · exact q.elim
def dPar3 (i j l : Nat) (Ta : TDA) : TDS := fun ξ De env => Ta ξ env fun ds => match ds with
  | [x, y, z] => De.nx (((env.set i (.d x)).set j (.d y)).set l (.d z))
  | _ => False
theorem tPar3_imp {i j l : Nat} : ∀ De σ H, sD F (dPar3 i j l Tas) De σ H → tPar3 i j l (tDA F Tas) De σ H := by
  rintro De σ H ⟨N, env, Dd, f, hT, ok⟩
  refine ⟨N, env, _, f, hT, fun vs H' ds e1 r q => ?_⟩
  split at q
  · obtain ⟨v, _, rfl, r1, w, _, rfl, r2, u, _, rfl, r3, r4⟩ := r
    cases r4
    exact ⟨v, w, u, rfl, ok.nx _ _ _ _ ((((f.ext' e1).set i r1).set j r2).set l r3) (.of f.n e1) q⟩
  · exact q.elim
/-- x += e of ints -/
def dAug (i : Nat) (g : G2) (T : TDE) : TDS := fun ξ De env => match env[i]? with
  | some (.d x) => T ξ env fun y => g x y fun z => De.nx (env.set i (.d z))
  | _ => False

/-! ### for -/
def forD (G : TDG) (B : TDS) (ξ : XW) (De : DEnds) : List D → SE → Prop
  | [], env => De.nx env
  | d :: ds, env => G d env fun env' => B ξ { De with nx := forD G B ξ De ds, ct := forD G B ξ De ds, bk := De.nx } env'
def dFor (T : TDE) (G : TDG) (B : TDS) : TDS := fun ξ De env => T ξ env fun d => match d with
  | .lst ds => forD G B ξ De ds env
  | _ => False
def dForT (T : TDE) (G : TDG) (B : TDS) : TDS := fun ξ De env => T ξ env fun d => match d with
  | .tup ds => forD G B ξ De ds env
  | _ => False
theorem forD_step {G : TDG} {B : TDS} {De : Ends} {Dd : DEnds} {N0 N : Addr → Prop} {H0 H : Hp} {σ : L2.St} {env : SE} {d : D} {v : V} {i : Nat} {all : List D} {Pv : Nat → L2.St → Hp → Prop}
    (hP : ∀ i σ H, Pv i σ H ↔ ∃ N env, FOk F N σ H env ∧ Evo N0 H0 N H ∧ forD G B F.ex Dd (all.drop i) env) (ok : EndsOk F N0 H0 Dd De) (f : FOk F N σ H env) (ev : Evo N0 H0 N H)
    (hd : all[i]? = some d) (r : Rep F.K F.Z N H d v) (h : forD G B F.ex Dd (all.drop i) env) :
    gD F G v σ H fun σ2 H2 => sD F B { De with nx := Pv (i + 1), ct := Pv (i + 1), bk := De.nx } σ2 H2 := by
  obtain ⟨hi, e⟩ := List.getElem?_eq_some_iff.mp hd
  rw [List.drop_eq_getElem_cons hi, e] at h
  refine ⟨N, env, d, _, f, r, h, fun σ' env' f' q => ⟨N, env', _, f', q, ⟨fun N1 σ1 H1 env1 f1 v1 q1 => ?_, ok.rt, fun N1 σ1 H1 env1 f1 v1 q1 => ok.nx _ _ _ _ f1 (ev.trans v1) q1, fun N1 σ1 H1 env1 f1 v1 q1 => ?_⟩⟩⟩
  · exact (hP _ _ _).mpr ⟨N1, env1, f1, ev.trans v1, q1⟩
  · exact (hP _ _ _).mpr ⟨N1, env1, f1, ev.trans v1, q1⟩
theorem ds_for {iter tg : Expr} {body : List Stmt} {G : TDG} {B : TDS} (hK : F.K = X.K) (hp : PassesOwn (model X.prog X.w) X.A X.env X.xe) (hc : X.calm = true) (hi : PE X iter (tD F Ta)) (hg : PG X tg (gD F G)) (hb : PSs X body (sD F B))
    (hs : ∀ x, foldedSetIterable iter X.env x = pure x := by intro _; rfl) : PS X (.For tg iter body [] pos) (sD F (dFor Ta G B)) := PS.imp (ps_for hp hc (pi_list hi) hg hb hs) (by
  rintro De σ H ⟨N, env, Dd, f, hT, ok⟩
  refine ⟨N, env, _, f, hT, fun v H1 d e1 r q => ?_⟩
  cases d <;> first | exact q.elim | skip
  rename_i ds
  obtain ⟨a, vs, rfl, na, ra, rs⟩ := r
  refine ⟨a, rfl, ⟨vs, SqL.of ra⟩, ?_⟩
  have f1 := f.ext' e1
  have ok1 := ok.of (.of f.n e1)
  refine for_list (K := X.K) (a := a) (xs := vs) (fun i σ H' => ∃ N' env', FOk F N' σ H' env' ∧ Evo N H1 N' H' ∧ forD G B F.ex Dd (ds.drop i) env') ⟨N, env, f1, .refl, q⟩ (fun i σ' H' _ ⟨N', env', f', ev, _⟩ => SqL.of (ev a _ na kp_lst ra).1) ?_ ?_
  · rintro i x σ' H' hx ⟨N', env', f', ev, q'⟩
    obtain ⟨d, hd, rd⟩ := rs.getV hx
    exact forD_step (fun _ _ _ => Iff.rfl) ok1 f' ev hd (Rep.mono ev d x rd) q'
  · rintro σ' H' ⟨N', env', f', ev, q'⟩
    rw [← rs.length, List.drop_length] at q'
    exact ok1.nx _ _ _ _ f' ev q')
theorem ds_forT {iter tg : Expr} {body : List Stmt} {G : TDG} {B : TDS} (hK : F.K = X.K) (hp : PassesOwn (model X.prog X.w) X.A X.env X.xe) (hc : X.calm = true) (hi : PE X iter (tD F Ta)) (hg : PG X tg (gD F G)) (hb : PSs X body (sD F B))
    (hs : ∀ x, foldedSetIterable iter X.env x = pure x := by intro _; rfl) : PS X (.For tg iter body [] pos) (sD F (dForT Ta G B)) := PS.imp (ps_for hp hc (pi_tup hi) hg hb hs) (by
  rintro De σ H ⟨N, env, Dd, f, hT, ok⟩
  refine ⟨N, env, _, f, hT, fun v H1 d e1 r q => ?_⟩
  cases d <;> first | exact q.elim | skip
  rename_i ds
  obtain ⟨a, vs, rfl, ra, rs⟩ := r
  refine ⟨a, rfl, ⟨vs, by rw [← hK]; exact sqt_of ra⟩, ?_⟩
  have f1 := f.ext' e1
  have ok1 := ok.of (.of f.n e1)
  refine for_tup (K := X.K) (a := a) (xs := vs) (fun i σ H' => ∃ N' env', FOk F N' σ H' env' ∧ Evo N H1 N' H' ∧ forD G B F.ex Dd (ds.drop i) env') ⟨N, env, f1, .refl, q⟩ (fun i σ' H' _ ⟨N', env', f', ev, _⟩ => ?_) ?_ ?_
  · rw [← hK]
    refine sqt_of (N := N') ?_
    rcases ra with ⟨n, ra⟩ | ra
    · obtain ⟨h1, h2⟩ := ev a _ n kp_tup ra
      exact .inl ⟨h2, h1⟩
    · exact .inr ra
  · rintro i x σ' H' hx ⟨N', env', f', ev, q'⟩
    obtain ⟨d, hd, rd⟩ := rs.getV hx
    exact forD_step (fun _ _ _ => Iff.rfl) ok1 f' ev hd (Rep.mono ev d x rd) q'
  · rintro σ' H' ⟨N', env', f', ev, q'⟩
    rw [← rs.length, List.drop_length] at q'
    exact ok1.nx _ _ _ _ f' ev q')
/-- the ints lo, lo + 1, .. -/
def intsD (lo : Int) (n : Nat) : List D := (List.range n).map fun (i : Nat) => D.int (lo + i)
theorem ints_get {lo : Int} {n i : Nat} (h : i < n) : (intsD lo n)[i]? = some (.int (lo + i)) := by
  unfold intsD
  rw [List.getElem?_map, List.getElem?_range h]
  rfl
theorem ints_len {lo : Int} {n : Nat} : (intsD lo n).length = n := by simp [intsD]
def dForR (T : TDA) (G : TDG) (B : TDS) : TDS := fun ξ De env => T ξ env fun ds => match ds with
  | [.int j] => (-(2 ^ 62) ≤ j ∧ j < 2 ^ 62) ∧ forD G B ξ De (intsD 0 j.toNat) env
  | _ => False
def dForR2 (T : TDA) (G : TDG) (B : TDS) : TDS := fun ξ De env => T ξ env fun ds => match ds with
  | [.int i, .int j] => (-(2 ^ 62) ≤ i ∧ i < 2 ^ 62 ∧ -(2 ^ 62) ≤ j ∧ j < 2 ^ 62) ∧ forD G B ξ De (intsD i (j - i).toNat) env
  | _ => False
theorem for_rangeD {G : TDG} {B : TDS} {De : Ends} {Dd : DEnds} {N : Addr → Prop} {H1 : Hp} {σ : L2.St} {env : SE} {lo : Int} {n : Nat} (ok1 : EndsOk F N H1 Dd De) (f1 : FOk F N σ H1 env) (q : forD G B F.ex Dd (intsD lo n) env) :
    ∃ W : Nat → Nat → L2.St → Hp → Prop, (∃ m, W 0 m σ H1) ∧ ∀ i m σ H, W i m σ H →
      ((Itr lo n).stop i H ∧ De.nx σ H) ∨ ((Itr lo n).go i H ∧ ∃ N : L2.St → Hp → Prop, (∀ σ' H', N σ' H' → ∃ m', m' < m ∧ W (i + 1) m' σ' H') ∧ ∀ x H', (Itr lo n).yld i H x H' → gD F G x σ H' fun σ2 H2 => sD F B { De with nx := N, ct := N, bk := De.nx } σ2 H2) := by
  refine for_range (lo := lo) (n := n) (fun i σ H' => ∃ N' env', FOk F N' σ H' env' ∧ Evo N H1 N' H' ∧ forD G B F.ex Dd ((intsD lo n).drop i) env') ⟨N, env, f1, .refl, q⟩ ?_ ?_
  · rintro i σ' H' hi ⟨N', env', f', ev, q'⟩
    exact forD_step (fun _ _ _ => Iff.rfl) ok1 f' ev (ints_get hi) rep_int q'
  · rintro σ' H' ⟨N', env', f', ev, q'⟩
    rw [show (intsD lo n).drop n = [] from by rw [List.drop_eq_nil_iff, ints_len]; exact Nat.le_refl _] at q'
    exact ok1.nx _ _ _ _ f' ev q'
theorem ds_forR1 {tg a : Expr} {p pos' : Pos} {body : List Stmt} {G : TDG} {B : TDS} (hp : PassesOwn (model X.prog X.w) X.A X.env X.xe) (hc : X.calm = true) (hgl : Gl X "range") (hm : X.mg "range" = none) (ha : PA X [a] (tDA F Tas)) (hg : PG X tg (gD F G)) (hb : PSs X body (sD F B))
    (hsa : starEach [a] X.env = [(false, eval a X.env)] := by rfl) (hs : ∀ x, foldedSetIterable (.Call (.Name "range" p) [a] [] pos') X.env x = pure x := by intro _; rfl) : PS X (.For tg (.Call (.Name "range" p) [a] [] pos') body [] pos) (sD F (dForR Tas G B)) := PS.imp (ps_for hp hc (pi_range1 hgl hm ha hsa) hg hb hs) (by
  rintro De σ H ⟨N, env, Dd, f, hT, ok⟩
  refine ⟨N, env, _, f, hT, fun vs H1 ds e1 r q => ?_⟩
  split at q
  · obtain ⟨v, _, rfl, r1, r2⟩ := r
    cases r2
    refine ⟨_, by rw [show v = _ from r1], q.1.1, q.1.2, ?_⟩
    exact for_rangeD (ok.of (.of f.n e1)) (f.ext' e1) q.2
  · exact q.elim)
theorem ds_forR2 {tg a b : Expr} {p pos' : Pos} {body : List Stmt} {G : TDG} {B : TDS} (hp : PassesOwn (model X.prog X.w) X.A X.env X.xe) (hc : X.calm = true) (hgl : Gl X "range") (hm : X.mg "range" = none) (ha : PA X [a, b] (tDA F Tas)) (hg : PG X tg (gD F G)) (hb : PSs X body (sD F B))
    (hsa : starEach [a, b] X.env = [(false, eval a X.env), (false, eval b X.env)] := by rfl) (hs2 : starEach [b] X.env = [(false, eval b X.env)] := by rfl) (hs : ∀ x, foldedSetIterable (.Call (.Name "range" p) [a, b] [] pos') X.env x = pure x := by intro _; rfl) : PS X (.For tg (.Call (.Name "range" p) [a, b] [] pos') body [] pos) (sD F (dForR2 Tas G B)) := PS.imp (ps_for hp hc (pi_range2 hgl hm ha hsa hs2) hg hb hs) (by
  rintro De σ H ⟨N, env, Dd, f, hT, ok⟩
  refine ⟨N, env, _, f, hT, fun vs H1 ds e1 r q => ?_⟩
  split at q
  · obtain ⟨v, _, rfl, r1, w, _, rfl, r2, r3⟩ := r
    cases r3
    refine ⟨_, _, by rw [show v = _ from r1, show w = _ from r2], q.1, ?_⟩
    exact for_rangeD (ok.of (.of f.n e1)) (f.ext' e1) q.2
  · exact q.elim)

/-! ### while -/
def whileN (c : TDT) (B : TDS) (ξ : XW) (De : DEnds) : Nat → SE → Prop
  | 0, _ => False
  | n + 1, env => c ξ env fun k => if k = true then B ξ { De with nx := whileN c B ξ De n, ct := whileN c B ξ De n, bk := De.nx } env else De.nx env
def dWhile (c : TDT) (B : TDS) : TDS := fun ξ De env => ∃ n, whileN c B ξ De n env
theorem ds_while {c : Expr} {body : List Stmt} {C : TDT} {B : TDS} (hp : PassesOwn (model X.prog X.w) X.A X.env X.xe) (hc : PT X c (tDT F C)) (hb : PSs X body (sD F B)) : PS X (.While c body [] pos) (sD F (dWhile C B)) := PS.imp (ps_while hp hc hb) (by
  rintro De σ H ⟨N, env, Dd, f, ⟨n, hT⟩, ok⟩
  refine ⟨fun m σ' H' => ∃ N' env', FOk F N' σ' H' env' ∧ Evo N H N' H' ∧ whileN C B F.ex Dd m env', ⟨n, N, env, f, .refl, hT⟩, ?_⟩
  rintro m σ' H' ⟨N', env', f', ev, q⟩
  cases m with
  | zero => exact q.elim
  | succ m =>
    refine ⟨N', env', _, f', q, fun k H2 e2 q2 => ?_⟩
    have ev2 : Evo N H N' H2 := ev.trans (.of f'.n e2)
    by_cases hk : k = true
    · subst hk
      rw [if_pos rfl] at q2
      refine iteT ?_
      refine ⟨fun σ3 H3 => ∃ N3 env3, FOk F N3 σ3 H3 env3 ∧ Evo N H N3 H3 ∧ whileN C B F.ex Dd m env3, fun σ3 H3 q3 => ⟨m, Nat.lt_succ_self m, q3⟩, N', env', _, f'.ext' e2, q2, ?_⟩
      exact ⟨fun N1 σ1 H1 env1 f1 v1 q1 => ⟨N1, env1, f1, ev2.trans v1, q1⟩, ok.rt, fun N1 σ1 H1 env1 f1 v1 q1 => ok.nx _ _ _ _ f1 (ev2.trans v1) q1, fun N1 σ1 H1 env1 f1 v1 q1 => ⟨N1, env1, f1, ev2.trans v1, q1⟩⟩
    · rw [Bool.not_eq_true] at hk
      subst hk
      rw [if_neg Bool.false_ne_true] at q2
      exact iteF (ok.nx _ _ _ _ (f'.ext' e2) ev2 q2))
end
end DL
set_option Elab.async false
set_option linter.all false
set_option maxRecDepth 100000
namespace DL
open PySem PySem.Spec L2
open PyProof.Rows hiding St

/-! ### defs, where no text is being written -/
structure RoomG (k : Nat) (A : Around) : Prop where
  r : Room k A
  g : A.guards = some []
theorem RoomG.mono {j k : Nat} {A : Around} (h : RoomG k A) (l : j ≤ k) : RoomG j A := ⟨h.r.mono l, h.g⟩
theorem units80 {k : Nat} {A : Around} (r : Room k A) : A.units + 80 < cLine := by have := r.un; omega
theorem guards_deeper {A : Around} {env : Env} (h : A.guards = some []) : (A.deeper env).guards = some [] := by
  first | exact h | (simpa [Around.deeper] using h)
structure FnG (P : Program) (w : World) (K : PySem.W.Frag) (mg : Str → Option Value) (base : Heap) (CX : CXT) (k : Nat) (f : Addr) (fd : FuncData) (ps : List Str) (sp : Sp) : Prop where
  len : ∀ vs H Q E, sp vs H Q E → vs.length = ps.length
  run : ∀ (A : Around) (outer : List Env) (s : Shared) (H : Hp) (args : Args) (us : List Value) (vs : List V) (Q : VK) (E : XK), RoomG k A → Env0 P w K mg base A outer s H → BindsTo s fd args (ps.zip us) → Vals vs us → sp vs H Q E →
    codeAny (model P w) A (.call (.ref f) args) (CR CX outer P w H s Q E) s
section
variable {P : Program} {w : World} {K : PySem.W.Frag} {mg : Str → Option Value} {base : Heap} {CX : CXT} {k : Nat} {f : Addr} {fd : FuncData} {N ps : List Str} {sp : Sp}
theorem FnG.mono {j : Nat} (G : FnG P w K mg base CX j f fd ps sp) (h : j ≤ k) : FnG P w K mg base CX k f fd ps sp :=
  ⟨G.len, fun A outer s H args us vs Q E hr => G.run A outer s H args us vs Q E (hr.mono h)⟩
theorem FnG.imp {sp' : Sp} (G : FnG P w K mg base CX k f fd ps sp) (h : ∀ vs H Q E, sp' vs H Q E → sp vs H Q E) : FnG P w K mg base CX k f fd ps sp' :=
  ⟨fun vs H Q E q => G.len _ _ _ _ (h _ _ _ _ q), fun A outer s H args us vs Q E hr he hb hv hs => G.run A outer s H args us vs Q E hr he hb hv (h _ _ _ _ hs)⟩
theorem FnOk.toG (G : FnOk P w K mg base CX k f fd ps sp) : FnG P w K mg base CX k f fd ps sp :=
  ⟨G.len, fun A outer s H args us vs Q E hr => G.run A outer s H args us vs Q E hr.r⟩
/-- a def's body, by a term for each entry -/
theorem fng_ofC {x qual : Str} {params : Arguments} {body : List Stmt} {scope : Scope} {dvs : List V} {kws : List (Str × V)} (F : FunD K x qual params body scope dvs kws f fd) (S : FnScope N ps scope)
    (len : ∀ vs H Q E, sp vs H Q E → vs.length = ps.length)
    (hb : ∀ (cdv : Value) (A : Around) (outer : List Env) (s : Shared) (H : Hp) (vs : List V) (Q : VK) (E : XK), RoomG k (A.deeper (envOfC qual scope s.heap.objs.size f cdv)) → (PySem.W.codeIn K cdv qual = true ∧ fd.code = cdv) → sp vs H Q E →
      ∃ t, PSs (cxOf CX P w K mg base N qual scope f cdv A outer s H E) body t ∧ t { nx := fun _ H' => Q .non H', rt := Q } (start N vs) H) : FnG P w K mg base CX (k + 1) f fd ps sp := by
  obtain ⟨oc, od, dV, kV, doc, pm, an, cdv, ct, osl, efd, lk, hcd, _, _⟩ := F.ex
  subst efd
  constructor
  · exact len
  intro A outer s H args us vs Q E room e0 bnd rel wish
  have lenv := len _ _ _ _ wish
  have still : ∀ b o, base.get? b = some o → s.heap.get? b = some o := fun b o e => (e0.bs b o e).1
  have inK : K.In s.heap := e0.mod.kin.keeps still
  have noLim : s.heap.NoLimit := e0.mod.nolimit.keeps still
  have kinds : ∀ y ∈ ps.zip us, scope.names.lookup y.1 = some .local ∨ (scope.names.lookup y.1 = some .cell ∧ ((cellsFrom (s.heap.objs.size + 1) scope.names []).lookup y.1).isSome = true) := by
    rintro ⟨n, v⟩ hy
    have hn := (List.of_mem_zip hy).1
    exact (S.par n hn).elim .inl fun q => .inr ⟨q, PySem.W.cellsFrom_some _ _ _ (.inl q)⟩
  refine codeAny_call_function room.r.depth (inK _ _ lk) rfl S.co S.gen rfl (PySem.W.codeRec_of inK hcd) (bnd _ _ _ _ ?_)
  refine wpAny_newFunctionEnv_cells S.kind kinds ?_
  intro env ee s1 inc
  subst ee
  refine ⟨noLim.keeps inc.toInCall.keep, codeAny_func ?_⟩
  obtain ⟨t, pt, tq⟩ := hb cdv A outer s H vs Q E ⟨room.r.deeper _, guards_deeper room.g⟩ ⟨hcd, rfl⟩ wish
  have start_ok := inv_start (CX := CX) (E := E) (qual := qual) (f := f) (cd := cdv) S room.r.hd e0 lenv rel inc
  refine wpAny_mono (pt.run [] s1 (start N vs) H _ start_ok tq) ?_ fun e s' z => z
  intro fl s' z
  cases fl with
  | next =>
    obtain ⟨σ', H', J, q⟩ := z
    exact ⟨V.non, H', J.os, J.bare, J.base, J.hok, rfl, q⟩
  | ret u =>
    obtain ⟨v, σ', H', J, rv, q⟩ := z
    exact ⟨v, H', J.os, J.bare, J.base, J.hok, rv, q⟩
  | brk =>
    obtain ⟨_, _, _, q⟩ := z
    cases q
  | cont =>
    obtain ⟨_, _, _, q⟩ := z
    cases q
theorem fng_of {x qual : Str} {params : Arguments} {body : List Stmt} {scope : Scope} {dvs : List V} {kws : List (Str × V)} (F : FunD K x qual params body scope dvs kws f fd) (S : FnScope N ps scope)
    (len : ∀ vs H Q E, sp vs H Q E → vs.length = ps.length)
    (hb : ∀ (cdv : Value) (A : Around) (outer : List Env) (s : Shared) (H : Hp) (vs : List V) (Q : VK) (E : XK), RoomG k (A.deeper (envOfC qual scope s.heap.objs.size f cdv)) → sp vs H Q E →
      ∃ t, PSs (cxOf CX P w K mg base N qual scope f cdv A outer s H E) body t ∧ t { nx := fun _ H' => Q .non H', rt := Q } (start N vs) H) : FnG P w K mg base CX (k + 1) f fd ps sp :=
  fng_ofC F S len fun cdv A outer s H vs Q E room _ => hb cdv A outer s H vs Q E room
end

section
variable {X : Cx} {CX : CXT} {k : Nat} {f : Addr} {fd : FuncData} {ps ks : List Str} {sp : Sp} {dvs : List V} {ds : List Value} {E : XK} {x : Str} {p pos : Pos} {e : Expr} {es : List Expr} {kws : List Keyword} {t tk : TA}
theorem wish_of {pins : List (Addr × Obj)} {σ : L2.St} {H : Hp} {s : Shared} {Q : VK} (hx : Passes CX X E) (I : Inv X pins σ H s) {r : Result} {s' : Shared} (h : CR CX X.stack X.prog X.w H s Q E r s') :
    match r with
    | .ok (.ret u) => EP X pins σ Q u s'
    | .ok _ => False
    | .error e => X.xe e s' := by
  cases r with
  | error e => exact hx pins σ H s e s' I h
  | ok fl =>
    cases fl with
    | ret u => exact I.after h
    | next => exact h
    | brk => exact h
    | cont => exact h
theorem run_g {pins : List (Addr × Obj)} {σ : L2.St} {H : Hp} {s : Shared} {Q : VK} {us : List Value} {vs : List V} (G : FnG X.prog X.w X.K X.mg X.base CX k f fd ps sp) (hr : RoomG k X.A) (hb : Binds X.K fd ps ds) (hd : Vals dvs ds) (hx : Passes CX X E)
    (I : Inv X pins σ H s) (r : Vals vs us) (h : sp (vs ++ dvs) H Q E) : wpAny (model X.prog X.w) X.A (call (.ref f) us) (EP X pins σ Q) X.xe s := by
  have rr : Vals (vs ++ dvs) (us ++ ds) := r.append hd
  have hl : (us ++ ds).length = ps.length := rr.length.symm.trans (G.len _ _ _ _ h)
  refine wpAny_call (codeAny_mono (G.run X.A X.stack s H ⟨us, []⟩ (us ++ ds) (vs ++ dvs) Q E hr I.env0 (hb s us I.kIn hl) rr h) fun r s' hq => ?_)
  have z := wish_of hx I hq
  cases r with
  | error e => exact z
  | ok fl => cases fl <;> exact z
theorem pe_callG (G : FnG X.prog X.w X.K X.mg X.base CX k f fd ps sp) (hr : RoomG k X.A) (hg : Gl X x) (hm : X.mg x = some (.ref f)) (hk : PySem.W.keepIn X.K (.ref f) = true) (hb : Binds X.K fd ps ds) (hd : Vals dvs ds) (hx : Passes CX X E)
    (ha : PA X (e :: es) t) (hdb : (x == ("__debug__" : Str)) = false := by decide) (he : starEach (e :: es) X.env = (false, eval e X.env) :: starEach es X.env := by rfl) (hpl : (backTo pos (starEach es X.env)).any (·.1) = false := by rfl) :
    PE X (.Call (.Name x p) (e :: es) [] pos) (tCall sp dvs E t) := ⟨fun pins s σ H Q I h =>
  wpAny_Call_Name_kw (ld_glob I hg hm (PySem.W.callWith_K (h₀ := X.base) I.ok.mod.kin hk (thn (ha.run pos pins s σ H _ I h) fun us s1 ⟨vs, H1, I1, r, q⟩ => ⟨I1.kIn, run_g G hr hb hd hx I1 r q⟩) he hpl) hdb)⟩
/-- keywords: all parameters, or some behind positional ones -/
theorem run_gk {pins : List (Addr × Obj)} {σ : L2.St} {H : Hp} {s : Shared} {Q : VK} {us ws : List Value} {vs zs : List V} {g : List Value → List Value → List Value} {gV : List V → List V → List V} (G : FnG X.prog X.w X.K X.mg X.base CX k f fd ps sp) (hr : RoomG k X.A) (hb : KBinds X.K fd ps ks g gV) (hx : Passes CX X E)
    (I : Inv X pins σ H s) (r : Vals vs us) (rz : Vals zs ws) (h : sp (gV vs zs) H Q E) : wpAny (model X.prog X.w) X.A (call (.ref f) us (ks.zip ws)) (EP X pins σ Q) X.xe s := by
  have rr := hb.rel r rz
  have hl : (g us ws).length = ps.length := rr.length.symm.trans (G.len _ _ _ _ h)
  refine wpAny_call (codeAny_mono (G.run X.A X.stack s H ⟨us, ks.zip ws⟩ (g us ws) (gV vs zs) Q E hr I.env0 (hb.to s us ws I.kIn hl) rr h) fun r s' hq => ?_)
  have z := wish_of hx I hq
  cases r with
  | error e => exact z
  | ok fl => cases fl <;> exact z
end

/-! ### promises over data -/
abbrev XT := DX → Prop
abbrev TF := XT → List D → (D → Prop) → Prop
/-- the class of this name -/
def clsAt (K : PySem.W.Frag) (n : Str) : Value := match PySem.W.nsIn K mainGlobals n with
  | some (some v) => v
  | _ => .none
/-- an exception below: its class, its own dict -/
def XRep (K : PySem.W.Frag) (Z : Zn) (N : Addr → Prop) (H : Hp) (x : DX) (c : Value) (od : Option Addr) : Prop :=
  c = clsAt K x.cls ∧ ((x.fs = [] ∧ od = none) ∨ ∃ d vs, od = some d ∧ ¬ N d ∧ H d = some (.xd ((x.fs.map (·.1)).zip vs)) ∧ Reps K Z N H (x.fs.map (·.2)) vs)
structure BOk (K : PySem.W.Frag) (Z : Zn) (B : Addr → Prop) (H : Hp) : Prop where
  deck : DeckOk Z H
  zin : ∀ p, InZ Z p → B p
  all : ∀ p, B p → ∃ o, H p = some o ∧ Kp o
  tb : Z.tabs = tabsOf K
def spD (K : PySem.W.Frag) (n : Nat) (T : TF) : Sp := fun vs H Q E => ∃ (Z : Zn) (B : Addr → Prop) (ds : List D) (Qd : D → Prop) (Ed : DX → Prop), BOk K Z B H ∧ Reps K Z B H ds vs ∧ ds.length = n ∧ T Ed ds Qd ∧
  (∀ v H' d, Ext Z H H' → Rep K Z B H' d v → Qd d → Q v H') ∧ ∀ x c od H', Ext Z H H' → XRep K Z B H' x c od → Ed x → E c od H'
theorem NOk.bok {F : FP} {N : Addr → Prop} {H : Hp} (n : NOk F N H) : BOk F.K F.Z N H := ⟨n.deck, n.z, n.all, n.tb⟩
def startD (n : Nat) (ds : List D) : SE := ds.map Slot.d ++ List.replicate (n - ds.length) .un
theorem start_ok {K : PySem.W.Frag} {Z : Zn} {B : Addr → Prop} {H : Hp} {ds : List D} {vs : List V} {Ed : XW} {N : List Str} (b : BOk K Z B H) (r : Reps K Z B H ds vs) : FOk ⟨K, Z, B, H, Ed, B, H⟩ B (start N vs) H (startD N.length ds) where
  n := ⟨b.deck, .refl, fun _ h => h, b.zin, b.all, fun _ h n => (n h).elim, .refl, b.tb⟩
  len := by simp [L2.start, startD, r.length]
  slot := fun i s h => by
    unfold startD at h
    by_cases hi : i < ds.length
    · rw [List.getElem?_append_left (by simpa using hi), List.getElem?_map] at h
      obtain ⟨d, hd⟩ : ∃ d, ds[i]? = some d := ⟨_, List.getElem?_eq_getElem hi⟩
      rw [hd] at h
      cases h
      obtain ⟨v, h1, h2⟩ := r.get hd
      refine ⟨v, ?_, h2⟩
      unfold L2.start
      rw [List.getElem?_append_left (by simpa [← r.length] using hi), List.getElem?_map, h1]
      rfl
    · rw [List.getElem?_append_right (by simpa using Nat.le_of_not_lt hi), List.getElem?_replicate] at h
      split at h
      · cases h; trivial
      · cases h
  apart := fun i j p xs ys _ h => by
    exfalso
    have : Slot.own xs ∈ startD N.length ds := List.mem_of_getElem? h
    unfold startD at this
    rcases List.mem_append.mp this with q | q
    · obtain ⟨d, _, e⟩ := List.mem_map.mp q; cases e
    · cases (List.mem_replicate.mp q).2
/-- what a def does with data: its body's reading -/
def tfOf (n : Nat) (T : TDS) : TF := fun ξ ds Q => T (fun x _ => ξ x) { nx := fun _ => Q .non, rt := Q } (startD n ds)
section
variable {P : Program} {w : World} {K : PySem.W.Frag} {mg : Str → Option Value} {base : Heap} {k : Nat} {f : Addr} {fd : FuncData} {N ps : List Str}
/-- a def that lets nothing out -/
theorem fng_data {x qual : Str} {params : Arguments} {body : List Stmt} {scope : Scope} {dvs : List V} {kws : List (Str × V)} {T : TDS} (Fd : FunD K x qual params body scope dvs kws f fd) (S : FnScope N ps scope)
    (hb : ∀ (cdv : Value) (A : Around) (outer : List Env) (s : Shared) (H : Hp) (E : XK) (F : FP), F.K = K → F.ex = (fun _ _ => False) → RoomG k (A.deeper (envOfC qual scope s.heap.objs.size f cdv)) →
      PSs (cxOf CX0 P w K mg base N qual scope f cdv A outer s H E).nox body (sD F T)) : FnG P w K mg base CX0 (k + 1) f fd ps (spD K ps.length fun _ ds Q => tfOf N.length T (fun _ => False) ds Q) := by
  refine fng_of Fd S ?_ ?_
  · rintro vs H Q E ⟨Z, B, ds, Qd, Ed, b, r, hl, _⟩
    rw [← r.length, hl]
  · rintro cdv A outer s H vs Q E room ⟨Z, B, ds, Qd, Ed, b, r, hl, hT, hq, _⟩
    refine ⟨_, (hb cdv A outer s H E ⟨K, Z, B, H, fun _ _ => False, B, H⟩ rfl rfl room).nox, ?_⟩
    exact ⟨B, _, _, start_ok b r, hT, ⟨fun N' σ' H' env' f' _ q => hq _ _ _ f'.n.ext rep_non q, fun v H' d e r' q => hq v H' d e r' q, fun _ _ _ _ _ _ q => q.elim, fun _ _ _ _ _ _ q => q.elim⟩⟩
end

/-! ### calls over data -/
section
variable {X : Cx} {F : FP} {k n : Nat} {f : Addr} {fd : FuncData} {ps ks : List Str} {x : Str} {p pos : Pos} {e : Expr} {es : List Expr} {kws : List Keyword} {Tas Tks : TDA} {T : TF}
def dCall (n : Nat) (T : TF) (Ta : TDA) : TDE := fun ξ env Q => Ta ξ env fun ds => ds.length = n ∧ T (fun _ => False) ds Q
theorem tCall_imp (hK : F.K = X.K) : ∀ σ H Q, tD F (dCall n T Tas) σ H Q → tCall (spD X.K n T) [] E0 (tDA F Tas) σ H Q := by
  rintro σ H Q ⟨N, env, Qd, f, hT, k⟩
  refine ⟨N, env, _, f, hT, fun vs H1 ds e1 r1 q1 => ?_⟩
  have n1 := (f.ext' e1).n
  refine ⟨F.Z, N, ds, Qd, _, by rw [← hK]; exact n1.bok, by rw [List.append_nil, ← hK]; exact r1, q1.1, q1.2, fun v H2 d e2 r2 q2 => k v H2 d (e1.trans e2) (by rw [hK]; exact r2) q2, fun _ _ _ _ _ _ z => z⟩
/-- f(e, ..): all parameters, by position -/
theorem d_call (G : FnG X.prog X.w X.K X.mg X.base CX0 k f fd ps (spD X.K n T)) (hK : F.K = X.K) (hr : RoomG k X.A) (hg : Gl X x) (hm : X.mg x = some (.ref f)) (hk : PySem.W.keepIn X.K (.ref f) = true) (hb : Binds X.K fd ps [])
    (ha : PA X (e :: es) (tDA F Tas)) (hdb : (x == ("__debug__" : Str)) = false := by decide) (he : starEach (e :: es) X.env = (false, eval e X.env) :: starEach es X.env := by rfl) (hpl : (backTo pos (starEach es X.env)).any (·.1) = false := by rfl) :
    PE X (.Call (.Name x p) (e :: es) [] pos) (tD F (dCall n T Tas)) :=
  PE.imp (pe_callG G hr hg hm hk hb .nil pass0 ha hdb he hpl) (tCall_imp hK)

/-! ### calls by name -/
theorem PK.imp {t t' : TA} (h : PK X kws t) (hi : ∀ σ H Q, t' σ H Q → t σ H Q) : PK X kws t' := ⟨fun pos pins s σ H Q I hw => h.run pos pins s σ H Q I (hi _ _ _ hw)⟩
theorem dk_nil : PK X [] (tDA F dNil) := PK.imp pk_nil (by
  rintro σ H Q ⟨N, env, Qd, f, hT, k⟩
  exact k [] H [] Ext.refl rfl hT)
theorem dk_cons {nm : Option Str} {kpos : Pos} {Ta : TDE} {Tr : TDA} (ha : PE X e (tD F Ta)) (hr : PK X kws (tDA F Tr)) : PK X (⟨nm, e, kpos⟩ :: kws) (tDA F (dCons Ta Tr)) := PK.imp (pk_cons ha hr) tCons_imp
/-- the values in the parameters' order -/
def perm {α : Type} : List Nat → List α → List α
  | [], _ => []
  | i :: r, l => match l[i]? with
    | some x => x :: perm r l
    | none => perm r l
theorem perm_vals {vs : List V} {us : List Value} (r : Vals vs us) : ∀ idx : List Nat, Vals (perm idx vs) (perm idx us)
  | [] => .nil
  | i :: idx => by
    unfold perm
    cases q : vs[i]? with
    | none => rw [r.none_of q]; exact perm_vals r idx
    | some v =>
      obtain ⟨u, h1, h2⟩ := r.get q
      rw [h1]
      exact .cons h2 (perm_vals r idx)
theorem perm_reps {K : PySem.W.Frag} {Z : Zn} {N : Addr → Prop} {H : Hp} {ds : List D} {vs : List V} (r : Reps K Z N H ds vs) : ∀ idx : List Nat, Reps K Z N H (perm idx ds) (perm idx vs)
  | [] => rfl
  | i :: idx => by
    unfold perm
    cases q : ds[i]? with
    | none =>
      have : vs[i]? = none := by
        rw [List.getElem?_eq_none_iff] at q ⊢
        rw [← r.length]; exact q
      rw [this]; exact perm_reps r idx
    | some d =>
      obtain ⟨v, h1, h2⟩ := r.get q
      rw [h1]
      exact ⟨v, _, rfl, h2, perm_reps r idx⟩
def KB (fd : FuncData) (ps ks : List Str) (idx : List Nat) : Prop := ∀ (s : Shared) (ws : List Value), ws.length = ks.length → BindsTo s fd ⟨[], ks.zip ws⟩ (ps.zip (perm idx ws))
def tCallP (m : Nat) (sp : Sp) (idx : List Nat) (E : XK) (tk : TA) : TE := fun σ H Q => tk σ H fun zs H2 => zs.length = m ∧ sp (perm idx zs) H2 Q E
theorem run_gp {CX : CXT} {sp : Sp} {E : XK} {idx : List Nat} {pins : List (Addr × Obj)} {σ : L2.St} {H : Hp} {s : Shared} {Q : VK} {ws : List Value} {zs : List V} (G : FnG X.prog X.w X.K X.mg X.base CX k f fd ps sp) (hr : RoomG k X.A) (hb : KB fd ps ks idx) (hx : Passes CX X E)
    (I : Inv X pins σ H s) (rz : Vals zs ws) (hl : zs.length = ks.length) (h : sp (perm idx zs) H Q E) : wpAny (model X.prog X.w) X.A (call (.ref f) [] (ks.zip ws)) (EP X pins σ Q) X.xe s := by
  refine wpAny_call (codeAny_mono (G.run X.A X.stack s H ⟨[], ks.zip ws⟩ (perm idx ws) (perm idx zs) Q E hr I.env0 (hb s ws (rz.length.symm.trans hl)) (perm_vals rz idx) h) fun r s' hq => ?_)
  have z := wish_of hx I hq
  cases r with
  | error e => exact z
  | ok fl => cases fl <;> exact z
theorem pe_callP {CX : CXT} {sp : Sp} {E : XK} {idx : List Nat} {tk : TA} (G : FnG X.prog X.w X.K X.mg X.base CX k f fd ps sp) (hr : RoomG k X.A) (hg : Gl X x) (hm : X.mg x = some (.ref f)) (hk : PySem.W.keepIn X.K (.ref f) = true) (hb : KB fd ps ks idx) (hx : Passes CX X E)
    (hkw : PK X kws tk) (hall : (backToKw pos (keywordEach kws X.env)).all (·.1.isSome) = true := by rfl) (hks : (backToKw pos (keywordEach kws X.env)).filterMap (·.1) = ks := by rfl) (hdb : (x == ("__debug__" : Str)) = false := by decide)
    (hpl : ((backTo pos (starEach [] X.env)).any (·.1) || (backToKw pos (keywordEach kws X.env)).any (·.1.isNone)) = false := by rfl) : PE X (.Call (.Name x p) [] kws pos) (tCallP ks.length sp idx E tk) := ⟨fun pins s σ H Q I h => by
  refine wpAny_Call_Name_kw (ld_glob I hg hm (PySem.W.callWith_KW0 (h₀ := X.base) I.ok.mod.kin hk hall ?_ hpl) hdb)
  refine thn (hkw.run pos pins s σ H _ I h) ?_
  rintro ws s2 ⟨zs, H2, I2, rz, l2, q2⟩
  rw [hks]
  exact ⟨I2.kIn, run_gp G hr hb hx I2 rz l2 q2⟩⟩
def dCallK (m n : Nat) (idx : List Nat) (T : TF) (Tk : TDA) : TDE := fun ξ env Q => Tk ξ env fun ds => (ds.length = m ∧ (perm idx ds).length = n) ∧ T (fun _ => False) (perm idx ds) Q
theorem d_callK {idx : List Nat} {m : Nat} (G : FnG X.prog X.w X.K X.mg X.base CX0 k f fd ps (spD X.K n T)) (hK : F.K = X.K) (hr : RoomG k X.A) (hg : Gl X x) (hm : X.mg x = some (.ref f)) (hk : PySem.W.keepIn X.K (.ref f) = true) (hb : KB fd ps ks idx)
    (hkw : PK X kws (tDA F Tks)) (hall : (backToKw pos (keywordEach kws X.env)).all (·.1.isSome) = true := by rfl) (hks : (backToKw pos (keywordEach kws X.env)).filterMap (·.1) = ks := by rfl) (hdb : (x == ("__debug__" : Str)) = false := by decide)
    (hpl : ((backTo pos (starEach [] X.env)).any (·.1) || (backToKw pos (keywordEach kws X.env)).any (·.1.isNone)) = false := by rfl) (hml : ks.length = m := by rfl) : PE X (.Call (.Name x p) [] kws pos) (tD F (dCallK m n idx T Tks)) :=
  PE.imp (pe_callP G hr hg hm hk hb pass0 hkw hall hks hdb hpl) (by
  subst hml
  rintro σ H Q ⟨N, env, Qd, f, hT, k⟩
  refine ⟨N, env, _, f, hT, fun vs H1 ds e1 r1 q1 => ⟨r1.length.symm.trans q1.1.1, ?_⟩⟩
  have n1 := (f.ext' e1).n
  refine ⟨F.Z, N, perm idx ds, Qd, _, by rw [← hK]; exact n1.bok, by rw [← hK]; exact perm_reps r1 idx, q1.1.2, q1.2, fun v H2 d e2 r2 q2 => k v H2 d (e1.trans e2) (by rw [hK]; exact r2) q2, fun _ _ _ _ _ _ z => z⟩)
end

/-! ### comprehensions -/
section
variable {X : Cx} {F : FP}
def wipeD (env : SE) : List Nat → SE
  | [] => env
  | v :: vs => (wipeD env vs).set v .un
theorem FOk.un {N : Addr → Prop} {σ : L2.St} {H : Hp} {env : SE} (f : FOk F N σ H env) (i : Nat) : FOk F N (σ.set i none) H (env.set i .un) where
  n := f.n
  len := by rw [List.length_set, List.length_set]; exact f.len
  slot := fun j s h => by
    by_cases hj : i = j
    · subst hj
      have hl : i < env.length := by
        have := (List.getElem?_eq_some_iff.mp h).1
        rwa [List.length_set] at this
      rw [List.getElem?_set_self hl] at h
      cases h
      trivial
    · rw [List.getElem?_set_ne hj] at h
      rw [List.getElem?_set_ne hj]
      exact f.slot j s h
  apart := fun j k p xs ys hjk h1 h2 h3 h4 => by
    have o : ∀ {j : Nat} {xs : List D}, (env.set i .un)[j]? = some (.own xs) → i ≠ j ∧ env[j]? = some (.own xs) := fun {j xs} h => by
      by_cases hj : i = j
      · subst hj
        have hl : i < env.length := by
          have := (List.getElem?_eq_some_iff.mp h).1
          rwa [List.length_set] at this
        rw [List.getElem?_set_self hl] at h
        cases h
      · rw [List.getElem?_set_ne hj] at h
        exact ⟨hj, h⟩
    obtain ⟨n1, h1⟩ := o h1
    obtain ⟨n2, h2⟩ := o h2
    rw [List.getElem?_set_ne n1] at h3
    rw [List.getElem?_set_ne n2] at h4
    exact f.apart j k p xs ys hjk h1 h2 h3 h4
theorem FOk.wipe {N : Addr → Prop} {σ : L2.St} {H : Hp} {env : SE} (f : FOk F N σ H env) : ∀ vs : List Nat, FOk F N (L2.wipe σ vs) H (wipeD env vs)
  | [] => f
  | v :: vs => (f.wipe vs).un v
/-- another wish -/
theorem FOk.wish {N : Addr → Prop} {σ : L2.St} {H : Hp} {env : SE} (f : FOk F N σ H env) (ex : XW) : FOk { F with ex := ex } N σ H env := ⟨⟨f.n.deck, f.n.ext, f.n.sub, f.n.zin, f.n.all, f.n.new, f.n.gr, f.n.tb⟩, f.len, fun i s h => by
  have q := f.slot i s h
  cases s <;> exact q, f.apart⟩
theorem FOk.unwish {N : Addr → Prop} {σ : L2.St} {H : Hp} {env : SE} {ex : XW} (f : FOk { F with ex := ex } N σ H env) : FOk F N σ H env := ⟨⟨f.n.deck, f.n.ext, f.n.sub, f.n.zin, f.n.all, f.n.new, f.n.gr, f.n.tb⟩, f.len, fun i s h => by
  have q := f.slot i s h
  cases s <;> exact q, f.apart⟩
/-- another list of the def's own comes -/
theorem FOk.with {N : Addr → Prop} {σ : L2.St} {H : Hp} {env : SE} (f : FOk F N σ H env) {p : Addr} {o : HO} (hk : Kp o) (hp : H p = none) (nb : ¬ F.B p) : FOk F (fun q => N q ∨ q = p) σ (upd H p o) env := by
  have e := f.n.lay (o := o) hp
  have f1 := f.ext' e
  have mv : ∀ r u, ¬ N r → Kp u → H r = some u → upd H p o r = some u ∧ ¬ (N r ∨ r = p) := fun r u n k h => by
    have ne := ne_of_none h hp
    exact ⟨by rw [upd_ne ne]; exact h, fun z => z.elim n ne⟩
  refine ⟨⟨f1.n.deck, f1.n.ext, fun q h => .inl (f1.n.sub q h), f1.n.zin, fun q h => ?_, fun q h n => ?_, f.n.gr.trans mv, f.n.tb⟩, f1.len, fun i s h => ?_, f1.apart⟩
  · rcases h with h | rfl
    · exact f1.n.all q h
    · exact ⟨o, upd_same, hk⟩
  · rcases h with h | rfl
    · exact f1.n.new q h n
    · exact f.n.new0 hp
  · have q := f.slot i s h
    cases s with
    | un => trivial
    | raw v => exact q
    | d x =>
      obtain ⟨v, h1, h2⟩ := q
      exact ⟨v, h1, Rep.mono mv x v h2⟩
    | own xs =>
      obtain ⟨r, vs, h1, h2, h3, h4, h5⟩ := q
      exact ⟨r, vs, h1, .inl h2, h3, by rw [upd_ne (ne_of_none h4 hp)]; exact h4, Reps.mono mv xs vs h5⟩
theorem FOk.nb {N : Addr → Prop} {σ : L2.St} {H : Hp} {env : SE} (f : FOk F N σ H env) {p : Addr} (hp : H p = none) : ¬ F.B p := fun z => f.n.fresh hp (f.n.sub p z)
/-- over the items: the target, the test, the element -/
def lcD (G : TDG) (tt : TDT) (te : TDE) (env : SE) : List D → (List D → Prop) → Prop
  | [], Q => Q []
  | d :: ds, Q => G d env fun env' => tt (fun _ _ => False) env' fun b => if b = true then te (fun _ _ => False) env' fun y => lcD G tt te env ds fun ys => Q (y :: ys) else lcD G tt te env ds Q
def dYes : TDT := fun _ _ Q => Q true
theorem dts_nil : PTs X [] (tDT F dYes) := ⟨fun pins s σ H Q I hw => pts_nil.run pins s σ H Q I (by
  obtain ⟨N, env, Qd, f, hT, k⟩ := hw
  exact k _ _ Ext.refl hT)⟩
theorem dts_one {c : Expr} {t : TDT} (h : PT X c (tDT F t)) : PTs X [c] (tDT F t) := pts_one h
end
end DL
set_option Elab.async false
set_option linter.all false
set_option maxRecDepth 100000
namespace DL
open PySem PySem.Spec L2
open PyProof.Rows hiding St
section
variable {X : Cx} {F : FP} {Ta : TDE} {Tas : TDA}
theorem FOk.with' {N : Addr → Prop} {σ : L2.St} {H H' : Hp} {env : SE} (f : FOk F N σ H env) {p : Addr} {o : HO} (hk : Kp o) (hp : H p = none) (e : Ext F.Z H H') (ho : H' p = some o) : FOk F (fun q => N q ∨ q = p) σ H' env := by
  have f1 := f.ext' e
  have mv : ∀ r u, ¬ N r → Kp u → H r = some u → H' r = some u ∧ ¬ (N r ∨ r = p) := fun r u n k h =>
    ⟨e.keep r u (fun z => n (f.n.z r z)) k h, fun z => z.elim n (ne_of_none h hp)⟩
  refine ⟨⟨f1.n.deck, f1.n.ext, fun q h => .inl (f1.n.sub q h), f1.n.zin, fun q h => ?_, fun q h n => ?_, f.n.gr.trans mv, f.n.tb⟩, f1.len, fun i s h => ?_, f1.apart⟩
  · rcases h with h | rfl
    · exact f1.n.all q h
    · exact ⟨o, ho, hk⟩
  · rcases h with h | rfl
    · exact f1.n.new q h n
    · exact f.n.new0 hp
  · have q := f.slot i s h
    cases s with
    | un => trivial
    | raw v => exact q
    | d x =>
      obtain ⟨v, h1, h2⟩ := q
      exact ⟨v, h1, Rep.mono mv x v h2⟩
    | own xs =>
      obtain ⟨r, vs, h1, h2, h3, h4, h5⟩ := q
      exact ⟨r, vs, h1, .inl h2, h3, e.keep r _ (fun z => h3 (f.n.zin r z)) kp_lst h4, Reps.mono mv xs vs h5⟩
/-- what a comprehension has made so far -/
structure LcAt (F : FP) (N : Addr → Prop) (H1 : Hp) (D : Addr) (G : TDG) (tt : TDT) (te : TDE) (env : SE) (all : List DL.D) (Qd : DL.D → Prop) (i : Nat) (H' : Hp) : Prop where
  ext : Ext F.Z H1 H'
  at_ : ∃ (acc : List V) (ds : List DL.D), H' D = some (.lst acc) ∧ acc.length ≤ i ∧ Reps F.K F.Z (fun q => N q ∨ q = D) H' ds acc ∧ lcD G tt te env (all.drop i) fun ys => Qd (.lst (ds ++ ys))
end
end DL
namespace DL
open PySem PySem.Spec L2
open PyProof.Rows hiding St
section
variable {X : Cx} {F : FP} {Ta : TDE} {Tas : TDA} {N : Addr → Prop} {σ : L2.St} {H1 H' : Hp} {env : SE} {A : Addr} {tt : TDT} {te : TDE} {all : List D} {Qd : D → Prop} {j : Nat}
abbrev FP.calm (F : FP) : FP := { F with ex := fun _ _ => False }
theorem lc_start (n : NOk F N H1) (hA : H1 A = none) {G : TDG} (h : lcD G tt te env all fun ys => Qd (.lst ys)) : LcAt F N H1 A G tt te env all Qd 0 (upd H1 A (.lst [])) :=
  ⟨n.lay hA, [], [], upd_same, Nat.le_refl _, rfl, by simpa using h⟩
theorem lc_turn (f : FOk F N σ H1 env) (hA : H1 A = none) (hz : all.length ≤ sizeLine) {i : Nat} {d : D} {x : V} (hd : all[i]? = some d) (r : Rep F.K F.Z N H1 d x) (L : LcAt F N H1 A (dgName j) tt te (wipeD env [j]) all Qd i H') :
    gName j x (L2.wipe σ [j]) H' fun σ2 H2 => L2.wipe σ2 [j] = L2.wipe σ [j] ∧ tDT F.calm tt σ2 H2 fun b H3 =>
      if b = true then tD F.calm te σ2 H3 fun y H4 => ∃ acc, H4 A = some (.lst acc) ∧ acc.length < sizeLine ∧ LcAt F N H1 A (dgName j) tt te (wipeD env [j]) all Qd (i + 1) (upd H4 A (.lst (acc ++ [y]))) else LcAt F N H1 A (dgName j) tt te (wipeD env [j]) all Qd (i + 1) H3 := by
  obtain ⟨ext, acc, ds, h1, h2, h3, h4⟩ := L
  obtain ⟨hi, e⟩ := List.getElem?_eq_some_iff.mp hd
  rw [List.drop_eq_getElem_cons hi, e] at h4
  have f1 : FOk F (fun q => N q ∨ q = A) (L2.wipe σ [j]) H' (wipeD env [j]) := (f.with' kp_lst hA ext h1).wipe [j]
  have mv : ∀ r u, ¬ N r → Kp u → H1 r = some u → H' r = some u ∧ ¬ (N r ∨ r = A) := fun r u n k h => ⟨ext.keep r u (fun z => n (f.n.z r z)) k h, fun z => z.elim n (ne_of_none h hA)⟩
  have r1 : Rep F.K F.Z (fun q => N q ∨ q = A) H' d x := Rep.mono mv d x r
  have nz : ∀ p, InZ F.Z p → p ≠ A := fun p z e => by
    obtain ⟨o, q, _⟩ := f.n.all p (f.n.z p z)
    rw [e, hA] at q; cases q
  refine ⟨by simp [L2.wipe, List.set_set], ?_⟩
  refine ⟨_, _, _, (f1.set j r1).wish _, h4, fun b H3 e3 q3 => ?_⟩
  have x3 := ext.trans e3
  have a3 : H3 A = some (.lst acc) := e3.keep A _ (fun z => nz A z rfl) kp_lst h1
  have f3 := f1.ext' e3
  by_cases hb : b = true
  · subst hb
    rw [if_pos rfl] at q3
    refine iteT ?_
    refine ⟨_, _, _, ((f1.set j r1).ext' e3).wish _, q3, fun y H4 dy e4 ry q4 => ?_⟩
    have a4 : H4 A = some (.lst acc) := e4.keep A _ (fun z => nz A z rfl) kp_lst a3
    have x4 := x3.trans e4
    refine ⟨acc, a4, by omega, ⟨fun p o n k h => ?_, fun dk => ?_⟩, acc ++ [y], ds ++ [dy], upd_same, by simp; omega, ?_, ?_⟩
    · rw [upd_ne (ne_of_none h hA)]
      exact x4.keep p o n k h
    · refine ⟨fun a l ez => ?_, fun p hp => ?_⟩
      · obtain ⟨xs, m, c, k1, k2, k3⟩ := (x4.deck dk).1 a l ez
        exact ⟨xs, m, c, by rw [upd_ne (nz a ⟨a, l, ez, .inl rfl⟩)]; exact k1, by rw [upd_ne (nz l ⟨a, l, ez, .inr rfl⟩)]; exact k2, k3⟩
      · exact tab_upd a4 kp_lst (fun _ h => by cases h) ((x4.deck dk).2 p hp)
    · have mv4 : ∀ r u, ¬ (N r ∨ r = A) → Kp u → H4 r = some u → upd H4 A (.lst (acc ++ [y])) r = some u ∧ ¬ (N r ∨ r = A) := fun r u n _ h => ⟨by rw [upd_ne (fun z => n (.inr z))]; exact h, n⟩
      have h4' : Reps F.K F.Z (fun q => N q ∨ q = A) H4 ds acc := (h3.ext e3 f1.n.z).ext e4 f1.n.z
      exact (Reps.mono mv4 _ _ h4').snoc (Rep.mono mv4 _ _ ry)
    · have : (fun ys => Qd (.lst (ds ++ [dy] ++ ys))) = fun ys => Qd (.lst (ds ++ dy :: ys)) := by
        funext ys; rw [List.append_assoc]; rfl
      rw [this]
      exact q4
  · rw [Bool.not_eq_true] at hb
    subst hb
    rw [if_neg Bool.false_ne_true] at q3
    refine iteF ?_
    exact ⟨x3, acc, ds, a3, by omega, h3.ext e3 f1.n.z, q3⟩
theorem lc_end (f : FOk F N σ H1 env) (hA : H1 A = none) {G : TDG} {H0 : Hp} {Q : VK} (e : Ext F.Z H0 H1) (k : ∀ v H' d, Ext F.Z H0 H' → Rep F.K F.Z N H' d v → Qd d → Q v H') {n : Nat} (hn : all.length = n) (L : LcAt F N H1 A G tt te (wipeD env [j]) all Qd n H') : Q (.ref A) H' := by
  obtain ⟨ext, acc, ds, h1, h2, h3, h4⟩ := L
  rw [← hn, List.drop_length] at h4
  have h4 : Qd (.lst (ds ++ [])) := h4
  rw [List.append_nil] at h4
  exact k _ _ (.lst ds) (e.trans ext) ⟨A, acc, rfl, f.n.fresh hA, h1, h3.less fun p z => .inl z⟩ h4
def dLc (T : TDE) (j : Nat) (tt : TDT) (te : TDE) : TDE := fun ξ env Q => T ξ env fun d => match d with
  | .lst ds => ds.length ≤ sizeLine ∧ lcD (dgName j) tt te (wipeD env [j]) ds fun ys => Q (.lst ys)
  | _ => False
def dLcT (T : TDE) (j : Nat) (tt : TDT) (te : TDE) : TDE := fun ξ env Q => T ξ env fun d => match d with
  | .tup ds => ds.length ≤ sizeLine ∧ lcD (dgName j) tt te (wipeD env [j]) ds fun ys => Q (.lst ys)
  | _ => False
def dLcR (T : TDA) (j : Nat) (tt : TDT) (te : TDE) : TDE := fun ξ env Q => T ξ env fun ds => match ds with
  | [.int n] => (0 ≤ n ∧ n ≤ sizeLine) ∧ lcD (dgName j) tt te (wipeD env [j]) (intsD 0 n.toNat) fun ys => Q (.lst ys)
  | _ => False
theorem lc_imp : ∀ σ H Q, tD F (dLc Ta j tt te) σ H Q → tLc (iList F.K (tD F Ta)) (gName j) (tDT F.calm tt) (tD F.calm te) [j] σ H Q := by
  rintro σ H Q ⟨N, env, Qd, f, hT, k⟩
  refine ⟨N, env, _, f, hT, fun v H1 d e1 r q => ?_⟩
  cases d <;> first | exact q.elim | skip
  rename_i ds
  obtain ⟨a, vs, rfl, na, ra, rs⟩ := r
  have f1 := f.ext' e1
  refine ⟨a, rfl, ⟨vs, SqL.of ra⟩, fun A hA => ?_⟩
  refine lc_list (K := F.K) (a := a) (xs := vs) (fun i H' => LcAt F N H1 A (dgName j) tt te (wipeD env [j]) ds Qd i H') (lc_start f1.n hA q.2) (fun i H' _ L => SqL.of (L.ext.keep a _ (fun z => na (f.n.z a z)) kp_lst ra)) (fun i x H' hx L => ?_) (fun H' L => lc_end f1 hA e1 k rs.length L)
  obtain ⟨d, hd, rd⟩ := rs.getV hx
  exact lc_turn f1 hA q.1 hd rd L
theorem lcT_imp : ∀ σ H Q, tD F (dLcT Ta j tt te) σ H Q → tLc (iTup F.K (tD F Ta)) (gName j) (tDT F.calm tt) (tD F.calm te) [j] σ H Q := by
  rintro σ H Q ⟨N, env, Qd, f, hT, k⟩
  refine ⟨N, env, _, f, hT, fun v H1 d e1 r q => ?_⟩
  cases d <;> first | exact q.elim | skip
  rename_i ds
  obtain ⟨a, vs, rfl, ra, rs⟩ := r
  have f1 := f.ext' e1
  refine ⟨a, rfl, ⟨vs, sqt_of ra⟩, fun A hA => ?_⟩
  refine lc_tup (K := F.K) (a := a) (xs := vs) (fun i H' => LcAt F N H1 A (dgName j) tt te (wipeD env [j]) ds Qd i H') (lc_start f1.n hA q.2) (fun i H' _ L => ?_) (fun i x H' hx L => ?_) (fun H' L => lc_end f1 hA e1 k rs.length L)
  · refine sqt_of (N := N) ?_
    rcases ra with ⟨n, ra⟩ | ra
    · exact .inl ⟨n, L.ext.keep a _ (fun z => n (f.n.z a z)) kp_tup ra⟩
    · exact .inr ra
  obtain ⟨d, hd, rd⟩ := rs.getV hx
  exact lc_turn f1 hA q.1 hd rd L
theorem lcR_imp : ∀ σ H Q, tD F (dLcR Tas j tt te) σ H Q → tLc (iRng1 (tDA F Tas)) (gName j) (tDT F.calm tt) (tD F.calm te) [j] σ H Q := by
  rintro σ H Q ⟨N, env, Qd, f, hT, k⟩
  refine ⟨N, env, _, f, hT, fun vs H1 ds e1 r q => ?_⟩
  split at q
  · rename_i n
    obtain ⟨v, _, rfl, r1, r2⟩ := r
    cases r2
    have f1 := f.ext' e1
    have hs : (sizeLine : Nat) < 2 ^ 62 := by rw [sizeLine_eq]; decide
    refine ⟨n, by rw [show v = _ from r1], by omega, by omega, fun A hA => ?_⟩
    refine lc_range (lo := 0) (n := n.toNat) (fun i H' => LcAt F N H1 A (dgName j) tt te (wipeD env [j]) (intsD 0 n.toNat) Qd i H') (lc_start f1.n hA q.2) (fun i H' hi L => ?_) (fun H' L => lc_end f1 hA e1 k ints_len L)
    exact lc_turn f1 hA (by rw [ints_len]; omega) (ints_get hi) rep_int L
  · exact q.elim
variable {e elt iter a : Expr} {ifs : List Expr} {scope : Scope} {own : List (Str × Nat)} {pos p pos' : Pos} {tg : Expr}
theorem d_lc (hK : F.K = X.K) (hc : X.calm = true) (hN : X.N.Nodup) (hi : PE X iter (tD F Ta)) (ok : BlkOk X.N X.env.scope scope own) (hv : own.map (·.2) = [j])
    (hg : ∀ (s : Shared) (H : Hp) (C : Addr) (cl : List (Str × Addr)) (fp : List Addr), PG (X.blk s H scope (compEnvC scope cl C X.env) fp) tg (gName j)) (ht : ∀ (s : Shared) (H : Hp) (C : Addr) (cl : List (Str × Addr)) (fp : List Addr), PTs (X.blk s H scope (compEnvC scope cl C X.env) fp) ifs (tDT F.calm tt))
    (he : ∀ (s : Shared) (H : Hp) (C : Addr) (cl : List (Str × Addr)) (fp : List Addr), PE (X.blk s H scope (compEnvC scope cl C X.env) fp) elt (tD F.calm te)) (hs : ∀ x, foldedSetIterable iter X.env x = pure x := by intro _; rfl) :
    PE X (.ListComp elt [⟨tg, iter, ifs, 0⟩] scope pos) (tD F (dLc Ta j tt te)) := by
  have z := pe_lc (pos := pos) hc hN (pi_list hi) ok hg ht he hs
  rw [hv] at z
  exact PE.imp z (by rw [← hK]; exact lc_imp)
theorem d_lcT (hK : F.K = X.K) (hc : X.calm = true) (hN : X.N.Nodup) (hi : PE X iter (tD F Ta)) (ok : BlkOk X.N X.env.scope scope own) (hv : own.map (·.2) = [j])
    (hg : ∀ (s : Shared) (H : Hp) (C : Addr) (cl : List (Str × Addr)) (fp : List Addr), PG (X.blk s H scope (compEnvC scope cl C X.env) fp) tg (gName j)) (ht : ∀ (s : Shared) (H : Hp) (C : Addr) (cl : List (Str × Addr)) (fp : List Addr), PTs (X.blk s H scope (compEnvC scope cl C X.env) fp) ifs (tDT F.calm tt))
    (he : ∀ (s : Shared) (H : Hp) (C : Addr) (cl : List (Str × Addr)) (fp : List Addr), PE (X.blk s H scope (compEnvC scope cl C X.env) fp) elt (tD F.calm te)) (hs : ∀ x, foldedSetIterable iter X.env x = pure x := by intro _; rfl) :
    PE X (.ListComp elt [⟨tg, iter, ifs, 0⟩] scope pos) (tD F (dLcT Ta j tt te)) := by
  have z := pe_lc (pos := pos) hc hN (pi_tup hi) ok hg ht he hs
  rw [hv] at z
  exact PE.imp z (by rw [← hK]; exact lcT_imp)
theorem d_lcR (hK : F.K = X.K) (hc : X.calm = true) (hN : X.N.Nodup) (hgl : Gl X "range") (hm : X.mg "range" = none) (ha : PA X [a] (tDA F Tas)) (ok : BlkOk X.N X.env.scope scope own) (hv : own.map (·.2) = [j])
    (hg : ∀ (s : Shared) (H : Hp) (C : Addr) (cl : List (Str × Addr)) (fp : List Addr), PG (X.blk s H scope (compEnvC scope cl C X.env) fp) tg (gName j)) (ht : ∀ (s : Shared) (H : Hp) (C : Addr) (cl : List (Str × Addr)) (fp : List Addr), PTs (X.blk s H scope (compEnvC scope cl C X.env) fp) ifs (tDT F.calm tt))
    (he : ∀ (s : Shared) (H : Hp) (C : Addr) (cl : List (Str × Addr)) (fp : List Addr), PE (X.blk s H scope (compEnvC scope cl C X.env) fp) elt (tD F.calm te)) (hsa : starEach [a] X.env = [(false, eval a X.env)] := by rfl) (hs : ∀ x, foldedSetIterable (.Call (.Name "range" p) [a] [] pos') X.env x = pure x := by intro _; rfl) :
    PE X (.ListComp elt [⟨tg, .Call (.Name "range" p) [a] [] pos', ifs, 0⟩] scope pos) (tD F (dLcR Tas j tt te)) := by
  have z := pe_lc (pos := pos) hc hN (pi_range1 hgl hm ha hsa) ok hg ht he hs
  rw [hv] at z
  exact PE.imp z lcR_imp
end
end DL
set_option Elab.async false
set_option linter.all false
set_option maxRecDepth 100000
namespace DL
open PySem PySem.Spec L2
open PyProof.Rows hiding St
section
variable {X : Cx} {F : FP} {Ta Tb : TDE} {Tas : TDA} {e a b c : Expr} {es : List Expr} {pos : Pos} {st : Stmt}

theorem PS.or {t u : TS} (h1 : PS X st t) (h2 : PS X st u) : PS X st (fun De σ H => t De σ H ∨ u De σ H) := ⟨fun pins s σ H De I h => h.elim (h1.run pins s σ H De I) (h2.run pins s σ H De I)⟩
theorem PE.or {t u : TE} (h1 : PE X e t) (h2 : PE X e u) : PE X e (fun σ H Q => t σ H Q ∨ u σ H Q) := ⟨fun pins s σ H Q I h => h.elim (h1.run pins s σ H Q I) (h2.run pins s σ H Q I)⟩
/-- for x in name: a list or a tuple -/
def seqD : Option Slot → Option (List D)
  | some (.d (.tup ds)) => some ds
  | some (.d (.lst ds)) => some ds
  | _ => none
def dForV (i : Nat) (G : TDG) (B : TDS) : TDS := fun ξ De env => match seqD env[i]? with
  | some ds => forD G B ξ De ds env
  | none => False
theorem seqD_of {o : Option Slot} {ds : List D} (h : seqD o = some ds) : o = some (.d (.tup ds)) ∨ o = some (.d (.lst ds)) := by
  unfold seqD at h
  split at h
  · cases h; exact .inl rfl
  · cases h; exact .inr rfl
  · cases h
theorem ds_forV {i : Nat} {tg iter : Expr} {body : List Stmt} {G : TDG} {B : TDS} (hK : F.K = X.K) (hp : PassesOwn (model X.prog X.w) X.A X.env X.xe) (hc : X.calm = true) (hi : PE X iter (tVar i)) (hg : PG X tg (gD F G)) (hb : PSs X body (sD F B))
    (hs : ∀ x, foldedSetIterable iter X.env x = pure x := by intro _; rfl) : PS X (.For tg iter body [] pos) (sD F (dForV i G B)) :=
  PS.imp (PS.or (ds_for (pos := pos) hK hp hc (d_var hi) hg hb hs) (ds_forT (pos := pos) hK hp hc (d_var hi) hg hb hs)) (by
  rintro De σ H ⟨N, env, Dd, f, hT, ok⟩
  unfold dForV at hT
  split at hT
  · rename_i ds hd
    rcases seqD_of hd with e | e
    · refine .inr ⟨N, env, Dd, f, ?_, ok⟩
      unfold dForT dVar
      rw [e]
      exact hT
    · refine .inl ⟨N, env, Dd, f, ?_, ok⟩
      unfold dFor dVar
      rw [e]
      exact hT
  · exact hT.elim)
def dLcV (i j : Nat) (tt : TDT) (te : TDE) : TDE := fun ξ env Q => match seqD env[i]? with
  | some ds => ds.length ≤ sizeLine ∧ lcD (dgName j) tt te (wipeD env [j]) ds fun ys => Q (.lst ys)
  | none => False
theorem d_lcV {i j : Nat} {tt : TDT} {te : TDE} {elt iter tg : Expr} {ifs : List Expr} {scope : Scope} {own : List (Str × Nat)} (hK : F.K = X.K) (hc : X.calm = true) (hN : X.N.Nodup) (hi : PE X iter (tVar i)) (ok : BlkOk X.N X.env.scope scope own) (hv : own.map (·.2) = [j])
    (hg : ∀ (s : Shared) (H : Hp) (C : Addr) (cl : List (Str × Addr)) (fp : List Addr), PG (X.blk s H scope (compEnvC scope cl C X.env) fp) tg (gName j)) (ht : ∀ (s : Shared) (H : Hp) (C : Addr) (cl : List (Str × Addr)) (fp : List Addr), PTs (X.blk s H scope (compEnvC scope cl C X.env) fp) ifs (tDT F.calm tt))
    (he : ∀ (s : Shared) (H : Hp) (C : Addr) (cl : List (Str × Addr)) (fp : List Addr), PE (X.blk s H scope (compEnvC scope cl C X.env) fp) elt (tD F.calm te)) (hs : ∀ x, foldedSetIterable iter X.env x = pure x := by intro _; rfl) :
    PE X (.ListComp elt [⟨tg, iter, ifs, 0⟩] scope pos) (tD F (dLcV i j tt te)) :=
  PE.imp (PE.or (d_lc (pos := pos) hK hc hN (d_var hi) ok hv hg ht he hs) (d_lcT (pos := pos) hK hc hN (d_var hi) ok hv hg ht he hs)) (by
  rintro σ H Q ⟨N, env, Qd, f, hT, k⟩
  unfold dLcV at hT
  split at hT
  · rename_i ds hd
    rcases seqD_of hd with e | e
    · refine .inr ⟨N, env, Qd, f, ?_, k⟩
      unfold dLcT dVar
      rw [e]
      exact hT
    · refine .inl ⟨N, env, Qd, f, ?_, k⟩
      unfold dLc dVar
      rw [e]
      exact hT
  · exact hT.elim)

/-! ### isinstance(x, T) -/
def gIs (T : PyT) : G1 := fun x Q => typed x = true ∧ Q (.bl (isD T x))
theorem d_isi {T : PyT} {p p2 : Pos} {ty : Str} (hK : F.K = X.K) (hg : Gl X "isinstance") (hm : X.mg "isinstance" = none) (hg2 : Gl X ty) (hm2 : X.mg ty = none) (hv2 : bootBuiltins ty = some (.type T.name)) (ha : PE X a (tD F Ta)) (hn2 : ty ≠ "__name__" := by decide) (hd2 : (ty == ("__debug__" : Str)) = false := by decide)
    (he : starEach [a, .Name ty p2] X.env = (false, eval a X.env) :: starEach [.Name ty p2] X.env := by rfl) (he2 : starEach [.Name ty p2] X.env = (false, eval (.Name ty p2) X.env) :: starEach [] X.env := by rfl) (hpl : (backTo pos (starEach [.Name ty p2] X.env)).any (·.1) = false := by rfl) :
    PE X (.Call (.Name "isinstance" p) [a, .Name ty p2] [] pos) (tD F (dUn (gIs T) Ta)) :=
  PE.imp (pe_callB call_isi hg hm (by decide +kernel) (pa_cons ha (pa_cons (pe_bltn (v := .ty T.name) hg2 hm2 hv2 rfl hn2 hd2) pa_nil he2) he) (by decide) (by decide) he hpl) (by
  rintro σ H Q ⟨N, env, Qd, f, hT, k⟩
  refine ⟨N, env, _, f, hT, fun v H1 d e1 r q => ?_⟩
  obtain ⟨t, h3, h4⟩ := tyx_of q.1 r
  rw [hK] at h3 h4
  exact ⟨v, _, _, _, _, rfl, .ty _, h3, h4 T, k _ _ _ e1 rep_bl q.2⟩)

/-! ### repr -/
def showOk (d : D) : Prop := plain d = true ∧ (toP d).showable = true ∧ (toP d).hasDict = false ∧ (toP d).depth ≤ 64 ∧ ((toP d).shown).length ≤ sizeLine
def gRepr : GA := fun xs Q => match xs with
  | [d] => showOk d ∧ Q (.str (toP d).shown)
  | _ => False
def rRepr (K : PySem.W.Frag) : List V → Hp → VK → Prop := fun vs H Q => ∃ v d, vs = [v] ∧ Dp K H v d ∧ d.showable = true ∧ d.hasDict = false ∧ d.depth ≤ 64 ∧ d.shown.length ≤ sizeLine ∧ Q (.str d.shown) H
theorem cr_repr (hg : X.A.guards = some []) (hu : X.A.units + 80 < cLine) : CallR X (.builtin "repr") (rRepr X.K) := by
  intro pins s σ H vs us Q I r h
  obtain ⟨v, d, rfl, dp, h1, h2, h3, h4, q⟩ := h
  obtain ⟨u, rfl, rv⟩ := vals1 r
  obtain ⟨as, rd⟩ := Dp.reads I d v u dp rv
  cases rd with
  | none => exact PySem.P.repr_of_none ⟨.str _, H, I.tok _, ⟨_, rfl⟩, q⟩
  | bool b => exact PySem.P.repr_of_bool ⟨.str _, H, I.tok _, ⟨_, rfl⟩, q⟩
  | int i t => exact PySem.P.repr_of_int (of_decide_eq_true h1) ⟨.str _, H, I.tok _, ⟨_, rfl⟩, q⟩
  | str x t => exact PySem.P.repr_of_str ⟨.str _, H, I.tok _, ⟨_, rfl⟩, q⟩ h4
  | list e1 e2 e3 e4 =>
    exact repr_of_reads' (h₀ := s.heap) (.list e1 e2 e3 e4) h1 (fun z => by rw [h2] at z; cases z) hg (by omega) (fun _ _ z => z) (fun h' u tk hk => ⟨.str _, H, I.kept (t' := tk) hk, ⟨_, rfl⟩, q⟩) h4
  | tuple e1 e2 e3 e4 =>
    exact repr_of_reads' (h₀ := s.heap) (.tuple e1 e2 e3 e4) h1 (fun z => by rw [h2] at z; cases z) hg (by omega) (fun _ _ z => z) (fun h' u tk hk => ⟨.str _, H, I.kept (t' := tk) hk, ⟨_, rfl⟩, q⟩) h4
  | dict e1 e2 e3 e4 e5 => cases h2
theorem cd_repr : CallD F (rRepr F.K) gRepr := ⟨by
  intro N H vs ds Qd Q n r h k
  unfold gRepr at h
  split at h
  · rename_i d
    obtain ⟨v, r, rfl, h1, h2⟩ := r
    cases h2
    obtain ⟨⟨p, s1, s2, s3, s4⟩, q⟩ := h
    exact ⟨v, toP d, rfl, Rep.dp d v p h1, s1, s2, s3, s4, k _ _ _ Ext.refl rep_str q⟩
  · exact h.elim⟩
theorem d_repr {p : Pos} (hK : F.K = X.K) (hgd : X.A.guards = some []) (hu : X.A.units + 80 < cLine) (hg : Gl X "repr") (hm : X.mg "repr" = none) (ha : PA X (e :: es) (tDA F Tas))
    (he : starEach (e :: es) X.env = (false, eval e X.env) :: starEach es X.env := by rfl) (hpl : (backTo pos (starEach es X.env)).any (·.1) = false := by rfl) : PE X (.Call (.Name "repr" p) (e :: es) [] pos) (tD F (dCB gRepr Tas)) := by
  have z := cd_repr (F := F)
  rw [hK] at z
  exact d_callB z (cr_repr hgd hu) hg hm (by decide +kernel) ha (by decide) (by decide) he hpl

/-! ### isqrt -/
def gIsqrt : GA := fun xs Q => match xs with
  | [.int i] => (0 ≤ i ∧ i.toNat.log2 < 13500) ∧ ∀ r : Int, 0 ≤ r → r * r ≤ i → i < (r + 1) * (r + 1) → Q (.int r)
  | _ => False
def rIsqrt : List V → Hp → VK → Prop := fun vs H Q => ∃ i : Int, vs = [.int i] ∧ (0 ≤ i ∧ i.toNat.log2 < 13500) ∧ ∀ r : Int, 0 ≤ r → r * r ≤ i → i < (r + 1) * (r + 1) → Q (.int r) H
theorem cr_isqrt : CallR X (.builtin "math.isqrt") rIsqrt := by
  intro pins s σ H vs us Q I r h
  obtain ⟨i, rfl, ⟨h0, h1⟩, q⟩ := h
  obtain ⟨u, rfl, t, rfl⟩ := vals1 r
  have z := PySem.W.mg_run_isqrt i t (by omega) (by omega) (by omega)
  obtain ⟨z1, z2⟩ := Float64.isqrt_spec i.toNat
  refine call_function_meets PySem.W.MGF.kind_isqrt PySem.W.MGF.plain_isqrt PySem.W.MGF.entry_isqrt (PySem.W.MGF.args_isqrt _) z.meets ?_
  refine ⟨.int _, H, I.tok _, ⟨_, rfl⟩, q _ (Int.natCast_nonneg _) ?_ ?_⟩
  · have : ((Float64.isqrt i.toNat * Float64.isqrt i.toNat : Nat) : Int) ≤ (i.toNat : Int) := Int.ofNat_le.mpr z1
    rw [Int.toNat_of_nonneg h0, Int.natCast_mul] at this
    exact this
  · have : ((i.toNat : Nat) : Int) < (((Float64.isqrt i.toNat + 1) * (Float64.isqrt i.toNat + 1) : Nat) : Int) := Int.ofNat_lt.mpr z2
    rw [Int.toNat_of_nonneg h0, Int.natCast_mul] at this
    exact this
theorem cd_isqrt : CallD F rIsqrt gIsqrt := ⟨by
  intro N H vs ds Qd Q n r h k
  unfold gIsqrt at h
  split at h
  · obtain ⟨v, r, rfl, h1, h2⟩ := r
    cases h2
    exact ⟨_, by rw [show v = _ from h1], h.1, fun r h1 h2 h3 => k _ _ _ Ext.refl rep_int (h.2 r h1 h2 h3)⟩
  · exact h.elim⟩
theorem d_callBf {x : Str} {p : Pos} {bid : String} {r : List V → Hp → VK → Prop} {g : GA} (hg' : CallD F r g) (hc : CallR X (.builtin bid) r) (hg : Gl X x) (hm : X.mg x = some (.builtin bid)) (ha : PA X (e :: es) (tDA F Tas)) (hdb : (x == ("__debug__" : Str)) = false := by decide)
    (he : starEach (e :: es) X.env = (false, eval e X.env) :: starEach es X.env := by rfl) (hpl : (backTo pos (starEach es X.env)).any (·.1) = false := by rfl) : PE X (.Call (.Name x p) (e :: es) [] pos) (tD F (dCB g Tas)) :=
  PE.imp (pe_callBfun hc hg hm ha hdb he hpl) (tCB_imp hg')

/-! ### two or three names at once -/
theorem ds_par {i j : Nat} {x y : Str} {px py pt : Pos} {kt k2 pt2} (hc : X.calm = true) (hN : X.N.Nodup) (hi : X.N[i]? = some x) (hj : X.N[j]? = some y) (hij : i ≠ j)
    (hx : X.env.scope.names.lookup x = some .local) (hy : X.env.scope.names.lookup y = some .local) (ha : PA X [a, b] (tDA F Tas)) (hw : swappedStores [.Tuple [.Name x px, .Name y py] kt pt] (.Tuple [a, b] k2 pt2) X.env = pure (some [x, y]) := by rfl)
    (hs : swapsWithSole [.Tuple [.Name x px, .Name y py] kt pt] (.Tuple [a, b] k2 pt2) pos.line X.env = pure false := by rfl) : PS X (.Assign [.Tuple [.Name x px, .Name y py] kt pt] (.Tuple [a, b] k2 pt2) pos) (sD F (dPar i j Tas)) :=
  PS.imp (ps_par hc hN hi hj hij hx hy ha hw hs) tPar_imp
theorem ds_par3 {i j l : Nat} {x y z : Str} {px py pz pt : Pos} {kt k2 pt2} (hc : X.calm = true) (hN : X.N.Nodup) (hi : X.N[i]? = some x) (hj : X.N[j]? = some y) (hl : X.N[l]? = some z) (hij : i ≠ j) (hil : i ≠ l) (hjl : j ≠ l)
    (hx : X.env.scope.names.lookup x = some .local) (hy : X.env.scope.names.lookup y = some .local) (hz : X.env.scope.names.lookup z = some .local) (ha : PA X [a, b, c] (tDA F Tas))
    (hw : swappedStores [.Tuple [.Name x px, .Name y py, .Name z pz] kt pt] (.Tuple [a, b, c] k2 pt2) X.env = pure (some [x, y, z]) := by rfl)
    (hs : swapsWithSole [.Tuple [.Name x px, .Name y py, .Name z pz] kt pt] (.Tuple [a, b, c] k2 pt2) pos.line X.env = pure false := by rfl) : PS X (.Assign [.Tuple [.Name x px, .Name y py, .Name z pz] kt pt] (.Tuple [a, b, c] k2 pt2) pos) (sD F (dPar3 i j l Tas)) :=
  PS.imp (ps_par3 hc hN hi hj hl hij hil hjl hx hy hz ha hw hs) tPar3_imp
end
theorem kb_of {K : PySem.W.Frag} {x qual : Str} {params : Arguments} {body : List Stmt} {scope : Scope} {kws : List (Str × V)} {f : Addr} {fd : FuncData} {ps ks : List Str} {idx : List Nat} (F : FunD K x qual params body scope [] kws f fd)
    (h : ∀ (kV doc pm : Value) (an : Option Addr) (cdv ct : Value) (ws : List Value), ws.length = ks.length → bindArgs (PySem.W.fnOf x qual params body scope .none kV doc pm an cdv ct) ⟨[], ks.zip ws⟩ = pure (ps.zip (perm idx ws))) : KB fd ps ks idx := by
  obtain ⟨oc, od, dV, kV, doc, pm, an, cdv, ct, osl, rfl, lk, hcd, hD, hK⟩ := F.ex
  rcases hD with ⟨_, rfl⟩ | ⟨e, _⟩
  · exact fun s ws hl => .of_eq (h kV doc pm an cdv ct ws hl)
  · exact absurd rfl e
end DL
set_option Elab.async false
set_option linter.all false
set_option maxRecDepth 100000
namespace DL
open PySem PySem.Spec L2
open PyProof.Rows hiding St

/-! ### a text of nines, and the number that it tells -/
def nine (n : Nat) : Str := ⟨(List.replicate n ((Str.ofString "9").cps)).foldl (· ++ ·) #[]⟩
theorem nine_fold (n : Nat) : ∀ acc : Array Nat, ((List.replicate n ((Str.ofString "9").cps)).foldl (· ++ ·) acc).toList = acc.toList ++ List.replicate n 57 := by
  induction n with
  | zero => intro acc; simp
  | succ n ih =>
    intro acc
    rw [List.replicate_succ, List.foldl_cons, ih]
    have e : (Str.ofString "9").cps = #[57] := by decide +kernel
    rw [e, Array.toList_append, List.append_assoc]
    rfl
theorem nine_cps (n : Nat) : (nine n).cps.toList = List.replicate n 57 := by
  unfold nine
  rw [nine_fold]
  rfl
theorem nine_len (n : Nat) : (nine n).length = n := by
  have : (nine n).cps.size = (nine n).cps.toList.length := Array.length_toList.symm
  show (nine n).cps.size = n
  rw [this, nine_cps, List.length_replicate]
open NumText in
theorem nines_digits (n : Nat) : ∀ (acc : Array Nat) (b : Bool), (List.replicate (n + 1) 57).foldlM (step 10) (acc, b) = some (acc ++ (List.replicate (n + 1) 9).toArray, true) := by
  induction n with
  | zero =>
    intro acc b
    have e : step 10 (acc, b) 57 = some (acc.push 9, true) := rfl
    rw [List.replicate_succ, List.foldlM_cons, e]
    simp
  | succ n ih =>
    intro acc b
    have e : step 10 (acc, b) 57 = some (acc.push 9, true) := rfl
    rw [List.replicate_succ, List.foldlM_cons, e]
    show (List.replicate (n + 1) 57).foldlM (step 10) (acc.push 9, true) = _
    rw [ih]
    congr 2
    rw [List.replicate_succ (n := n + 1)]
    apply Array.ext'
    simp
theorem nines_value (n : Nat) : ∀ acc : Nat, (List.replicate n 9).foldl (fun acc d => acc * 10 + d) acc + 1 = (acc + 1) * 10 ^ n := by
  induction n with
  | zero => intro acc; simp
  | succ n ih =>
    intro acc
    rw [List.replicate_succ, List.foldl_cons, ih, Nat.pow_succ]
    rw [Nat.mul_comm (10 ^ n) 10, ← Nat.mul_assoc]
    congr 1
    omega
open NumText in
theorem nine_int (n : Nat) (h : n + 1 ≤ 4300) : intText? (nine (n + 1)) = some ((10 : Int) ^ (n + 1) - 1) := by
  have hall : ((nine (n + 1)).cps.all (· < 128)) = true := by
    rw [← Array.all_toList, nine_cps, List.all_eq_true]
    intro x hx
    rw [(List.mem_replicate.mp hx).2]
    rfl
  have e1 : numTextOf (nine (n + 1)) = List.replicate (n + 1) 57 := by
    unfold numTextOf
    rw [if_pos hall, nine_cps]
  have e2 : numSeenOf (nine (n + 1)) = List.replicate (n + 1) 57 := by
    unfold numSeenOf
    rw [e1, List.takeWhile_replicate]
    rfl
  have e3 : (List.replicate (n + 1) 57).dropWhile blank = List.replicate (n + 1) 57 := by
    rw [List.replicate_succ, List.dropWhile_cons]
    rfl
  have e4 : sign (List.replicate (n + 1) 57) = (false, List.replicate (n + 1) 57) := by
    rw [List.replicate_succ]
    rfl
  have e5 : core (List.replicate (n + 1) 57) = List.replicate (n + 1) 57 := by
    unfold core
    rw [e3, e4]
    show ((List.replicate (n + 1) 57).reverse.dropWhile blank).reverse = _
    rw [List.reverse_replicate, e3, List.reverse_replicate]
  unfold intText?
  rw [e1, e2, e3, e4, e5]
  rw [if_pos (by simp)]
  have e6 : digits? 10 (List.replicate (n + 1) 57) = some (List.replicate (n + 1) 9).toArray := by
    unfold digits?
    rw [nines_digits]
    simp
  rw [e6]
  show (if (List.replicate (n + 1) 9).toArray.size ≤ 4300 then some (worth false (List.replicate (n + 1) 9).toArray) else none) = _
  rw [if_pos (by simpa using h)]
  congr 1
  unfold worth
  rw [if_neg Bool.false_ne_true]
  have v := nines_value (n + 1) 0
  rw [List.foldl_toArray]
  have : ((List.replicate (n + 1) 9).foldl (fun acc d => acc * 10 + d) 0 : Nat) = 10 ^ (n + 1) - 1 := by omega
  rw [this]
  have p : 1 ≤ 10 ^ (n + 1) := Nat.one_le_pow _ _ (by decide)
  rw [Int.natCast_sub p]
  simp
section
variable {X : Cx} {F : FP} {Ta Tb : TDE} {Tas : TDA} {e a b c : Expr} {es : List Expr} {pos : Pos} {st : Stmt}
def rNine : R2 := fun x y H Q => ∃ n : Int, x = .str "9" ∧ y = .int n ∧ (2 ≤ n ∧ n ≤ 10000) ∧ Q (.str (nine n.toNat)) H
theorem op_nine : OpR X (binaryOp .Mult) rNine := by
  intro pins s σ H x y v u Q I rx ry h
  obtain ⟨n, rfl, rfl, ⟨h1, h2⟩, q⟩ := h
  obtain ⟨t, rfl⟩ := rx
  obtain ⟨t', rfl⟩ := ry
  have l1 : ("9" : Str).length = 1 := by decide +kernel
  have c1 : (n == 1 || ("9" : Str).length == 0) = false := by
    rw [l1]
    have : (n == 1) = false := by rw [beq_eq_false_iff_ne]; omega
    rw [this]; rfl
  refine PySem.P.mul_str ?_ ?_ ?_ ?_
  · rw [decide_eq_false (by omega), decide_eq_false (by omega)]; rfl
  · intro _ _ z
    rw [l1] at z
    have hd : 10000 ≤ (2 ^ 63 - 1) / n := by
      rw [Int.le_ediv_iff_mul_le (by omega)]
      omega
    omega
  · intro _ _
    unfold Builtin.Str.tooLong
    rw [l1, sizeLine_eq]
    exact decide_eq_false (by omega)
  · rw [if_neg (by omega), if_neg (by rw [c1]; exact Bool.false_ne_true)]
    have hl : (nine n.toNat).length ≤ sizeLine := by rw [nine_len, sizeLine_eq]; omega
    exact ⟨hl, ⟨.str (nine n.toNat), H, I.tok _, ⟨_, rfl⟩, q⟩⟩
def gNines : G1 := fun x Q => match x with
  | .int n => (2 ≤ n ∧ n ≤ 640) ∧ Q (.int (10 ^ n.toNat - 1))
  | _ => False
theorem d_nines {k : Nat} {p p1 p2 : Pos} {n : Expr} (hg : Gl X "int") (hm : X.mg "int" = none) (hn : PE X n (tD F Ta)) (he : starEach [.BinOp (.Constant (.str "9") k p1) .Mult n p2] X.env = (false, eval (.BinOp (.Constant (.str "9") k p1) .Mult n p2) X.env) :: starEach [] X.env := by rfl)
    (hpl : (backTo pos (starEach [] X.env)).any (·.1) = false := by rfl) : PE X (.Call (.Name "int" p) [.BinOp (.Constant (.str "9") k p1) .Mult n p2] [] pos) (tD F (dUn gNines Ta)) :=
  PE.imp (pe_callTy call_int_str hg hm (by decide +kernel) (pa_cons (pe_op op_nine pe_str hn) pa_nil he) (by decide) (by decide) he hpl) (by
  rintro σ H Q ⟨N, env, Qd, f, hT, k⟩
  refine ⟨N, env, _, f, hT, fun v H1 d e1 r q => ?_⟩
  cases d <;> first | exact q.elim | skip
  rename_i n
  obtain ⟨⟨h1, h2⟩, q⟩ := q
  refine ⟨n, rfl, r, ⟨h1, by omega⟩, ?_⟩
  obtain ⟨m, hm⟩ : ∃ m, n.toNat = m + 1 := ⟨n.toNat - 1, by omega⟩
  refine ⟨nine n.toNat, _, rfl, ?_, by rw [nine_len]; omega, k _ _ _ e1 rep_int q⟩
  rw [hm]
  exact nine_int m (by omega))
end
end DL
set_option Elab.async false
set_option linter.all false
set_option maxRecDepth 100000
namespace DL
open PySem PySem.Spec L2
open PyProof.Rows hiding St
/-! ### the deck -/
/-- a draw: some number below the given one -/
def tf_draw : TF := fun _ ds Q => match ds with
  | [.deck, .int n] => (0 < n ∧ n < 1000000000) ∧ ∀ r : Int, 0 ≤ r → r < n → Q (.int r)
  | _ => False
theorem draw_reps {K : PySem.W.Frag} {Z : Zn} {B : Addr → Prop} {H : Hp} {ds : List D} {vs : List V} {Qd : D → Prop} (r : Reps K Z B H ds vs) (h : tf_draw (fun _ => False) ds Qd) :
    ∃ a l n, Z.deck = some (a, l) ∧ vs = [.ref a, .int n] ∧ (0 < n ∧ n < 1000000000) ∧ ∀ r : Int, 0 ≤ r → r < n → Qd (.int r) := by
  unfold tf_draw at h
  split at h
  · obtain ⟨v, _, rfl, ⟨a, l, hz, rfl⟩, w, _, rfl, rfl, h4⟩ := r
    cases h4
    exact ⟨a, l, _, hz, rfl, h⟩
  · exact h.elim
theorem kvs_m {l : Addr} {m k : Int} : valV (deckKvs l m k) (.inr ("mixed" : Str)) = some (.int m) := rfl
theorem kvs_l {l : Addr} {m k : Int} : valV (deckKvs l m k) (.inr ("left" : Str)) = some (.ref l) := rfl
theorem kvs_d {l : Addr} {m k : Int} : valV (deckKvs l m k) (.inr ("draws" : Str)) = some (.int k) := rfl
theorem kvs_put {l : Addr} {m k j : Int} : putK (deckKvs l m k) (.inr ("draws" : Str)) (.int j) = deckKvs l m j := rfl
theorem dg_m {H : Hp} {a l : Addr} {m k : Int} (h : H a = some (.dK (deckKvs l m k))) : DGet H a (.str "mixed") (some (.int m)) := kvs_m (l := l) (m := m) (k := k) ▸ DGet.k (k := .inr "mixed") h
theorem dg_l {H : Hp} {a l : Addr} {m k : Int} (h : H a = some (.dK (deckKvs l m k))) : DGet H a (.str "left") (some (.ref l)) := kvs_l (l := l) (m := m) (k := k) ▸ DGet.k (k := .inr "left") h
theorem dg_d {H : Hp} {a l : Addr} {m k : Int} (h : H a = some (.dK (deckKvs l m k))) : DGet H a (.str "draws") (some (.int k)) := kvs_d (l := l) (m := m) (k := k) ▸ DGet.k (k := .inr "draws") h
theorem dp_d {H : Hp} {a l : Addr} {m k j : Int} (h : H a = some (.dK (deckKvs l m k))) : DPut H a (.str "draws") (.int j) (upd H a (.dK (deckKvs l m j))) :=
  kvs_put (l := l) (m := m) (k := k) (j := j) ▸ DPut.k (k := .inr "draws") (v := .int j) h (by rw [sizeLine_eq]; show 3 < _; omega)
/-- the heap behind some steps of a draw -/
structure Dk (a l : Addr) (H H' : Hp) (m k : Int) (xs : List Int) : Prop where
  keep : ∀ p o, p ≠ a → p ≠ l → H p = some o → H' p = some o
  dict : H' a = some (.dK (deckKvs l m k))
  list : H' l = some (.lst (xs.map V.int))
  ne : a ≠ l
  tabs : ∀ P q, LamX.TabS H P q → LamX.TabS H' P q
theorem Dk.ext {a l : Addr} {H H' : Hp} {m k : Int} {xs : List Int} (d : Dk a l H H' m k xs) (h : xs.length ≤ 63) {Z : Zn} (hz : Z.deck = some (a, l)) : Ext Z H H' :=
  ⟨fun p o n _ e => d.keep p o (fun z => n ⟨a, l, hz, .inl z⟩) (fun z => n ⟨a, l, hz, .inr z⟩) e, fun dk => ⟨fun a' l' e => by rw [hz] at e; cases e; exact ⟨xs, m, k, d.dict, d.list, h⟩, fun p hp => d.tabs _ _ (dk.2 p hp)⟩⟩
theorem Dk.new {a l p : Addr} {o : HO} {H H' : Hp} {m k : Int} {xs : List Int} (d : Dk a l H H' m k xs) (hp : H' p = none) : Dk a l H (upd H' p o) m k xs :=
  ⟨fun q u n1 n2 e => by rw [upd_ne (ne_of_none (d.keep q u n1 n2 e) hp)]; exact d.keep q u n1 n2 e, by rw [upd_ne (ne_of_none d.dict hp)]; exact d.dict, by rw [upd_ne (ne_of_none d.list hp)]; exact d.list, d.ne, fun P q t => (d.tabs P q t).ext fun b u e => by rw [upd_ne (ne_of_none e hp)]; exact e⟩
theorem Dk.put {a l : Addr} {H H' : Hp} {m k j : Int} {xs : List Int} (d : Dk a l H H' m k xs) : Dk a l H (upd H' a (.dK (deckKvs l m j))) m j xs :=
  ⟨fun q u n1 n2 e => by rw [upd_ne n1]; exact d.keep q u n1 n2 e, upd_same, by rw [upd_ne d.ne.symm]; exact d.list, d.ne, fun P q t => tab_upd d.dict kp_dk (fun _ h => by cases h) (d.tabs P q t)⟩
theorem Dk.set {a l : Addr} {H H' : Hp} {m k : Int} {xs ys : List Int} (d : Dk a l H H' m k xs) : Dk a l H (upd H' l (.lst (ys.map V.int))) m k ys :=
  ⟨fun q u n1 n2 e => by rw [upd_ne n2]; exact d.keep q u n1 n2 e, by rw [upd_ne d.ne]; exact d.dict, upd_same, d.ne, fun P q t => tab_upd d.list kp_lst (fun _ h => by cases h) (d.tabs P q t)⟩
theorem dp_ints {K : PySem.W.Frag} {H : Hp} : ∀ (xs : List Int), DpAll K H (xs.map V.int) (xs.map PyData.int)
  | [] => .nil
  | x :: xs => .cons (.int x) (dp_ints xs)
theorem shaped_ints (xs : List Int) : SeqAt.shaped (.list (xs.map PyData.int)) = true := by
  have h1 : ∀ xs : List Int, PyData.canLayAll0 (xs.map PyData.int) = true := fun xs => by
    induction xs with
    | nil => rfl
    | cons x xs ih => simpa [PyData.canLayAll0, PyData.canLay0] using ih
  have h2 : ∀ xs : List Int, PyData.depthAll (xs.map PyData.int) ≤ 1 := fun xs => by
    induction xs with
    | nil => simp [PyData.depthAll]
    | cons x xs ih => simp only [List.map_cons, PyData.depthAll, PyData.depth]; omega
  have := h2 xs
  unfold SeqAt.shaped
  rw [Bool.and_eq_true]
  refine ⟨by simpa [PyData.canLay0] using h1 xs, decide_eq_true ?_⟩
  simp only [PyData.depth]
  omega
theorem eqv_ints_nil : ∀ xs : List Int, (!PyData.eqv (.list (xs.map PyData.int)) (.list [])) = !xs.isEmpty
  | [] => rfl
  | x :: xs => rfl
theorem last_of (xs : List Int) : xs = [] ∨ ∃ (ys : List Int) (y : Int), xs = ys ++ [y] := by
  rcases List.eq_nil_or_concat xs with h | ⟨l, b, h⟩
  · exact .inl h
  · exact .inr ⟨l, b, by rw [h, List.concat_eq_append]⟩
end DL
set_option Elab.async false
set_option linter.all false
set_option maxRecDepth 100000
namespace DL
open PySem PySem.Spec L2
open PyProof.Rows hiding St
/-- a new deck, from the script -/
def spDeck (K : PySem.W.Frag) : Sp := fun vs H Q _ => ∃ (s : Addr) (ns : List Int), vs = [.ref s] ∧ SqL K H s (ns.map V.int) ∧ ns.length ≤ 63 ∧
  ∀ (H' : Hp) (a l : Addr) (m : Int) (xs : List Int), (∀ p o, H p = some o → H' p = some o) → H a = none → H l = none → H' a = some (.dK (deckKvs l m 0)) → H' l = some (.lst (xs.map V.int)) → xs.length ≤ 63 → Q (.ref a) H'
theorem merge_deck {l : Addr} {m : Int} : mergeK [] [(.inr ("left" : Str), .ref l), (.inr ("mixed" : Str), .int m), (.inr ("draws" : Str), .int 0)] = deckKvs l m 0 := rfl
theorem PSs.exF {X : Cx} {sts : List Stmt} {P : FP → Prop} {T : TDS} (h : ∀ F : FP, P F → PSs X sts (sD F T)) : PSs X sts (fun De σ H => ∃ F : FP, P F ∧ sD F T De σ H) :=
  ⟨fun pins s σ H De I ⟨F, e, q⟩ => (h F e).run pins s σ H De I q⟩
/-- the law: a deck is made, the rest is data -/
def spLaw (K : PySem.W.Frag) (n : Nat) (T : TDS) : Sp := fun vs H Q _ => ∃ (s : Addr) (ns : List Int), vs = [.ref s] ∧ SqL K H s (ns.map V.int) ∧ ns.length ≤ 63 ∧ LamX.Tabs (tabsOf K) H ∧
  T (fun _ _ => False) { nx := fun _ => False, rt := fun d => d = .bl true } (.un :: .d .deck :: List.replicate n .un) ∧ ∀ H', Q (.bl true) H'
theorem law_rest {K : PySem.W.Frag} {n : Nat} {T : TDS} {H' : Hp} {Q : VK} {a l : Addr} {m : Int} {xs : List Int} {s0 : V} (h0 : H' a = some (.dK (deckKvs l m 0))) (h1 : H' l = some (.lst (xs.map V.int))) (hx : xs.length ≤ 63) (ht : LamX.Tabs (tabsOf K) H')
    (hT : T (fun _ _ => False) { nx := fun _ => False, rt := fun d => d = .bl true } (.un :: .d .deck :: List.replicate n .un)) (k : ∀ H', Q (.bl true) H') :
    ∃ F : FP, (F.K = K ∧ F.ex = fun _ _ => False) ∧ sD F T { nx := fun _ H' => Q .non H', rt := Q } (some s0 :: some (.ref a) :: List.replicate n none) H' := by
  refine ⟨⟨K, ⟨some (a, l), tabsOf K⟩, fun p => p = a ∨ p = l, H', fun _ _ => False, fun p => p = a ∨ p = l, H'⟩, ⟨rfl, rfl⟩, fun p => p = a ∨ p = l, _, _, ⟨⟨⟨?_, ht⟩, .refl, fun _ h => h, ?_, ?_, fun p h n => (n h).elim, .refl, rfl⟩, by simp, ?_, ?_⟩, hT, ⟨fun _ _ _ _ _ _ z => z.elim, fun v H2 d _ r z => ?_, fun _ _ _ _ _ _ z => z.elim, fun _ _ _ _ _ _ z => z.elim⟩⟩
  · intro a' l' e; cases e; exact ⟨xs, m, 0, h0, h1, hx⟩
  · rintro p ⟨a', l', e, z⟩; cases e; exact z
  · rintro p (rfl | rfl)
    · exact ⟨_, h0, kp_dk⟩
    · exact ⟨_, h1, kp_lst⟩
  · intro i s hs
    match i, hs with
    | 0, hs => cases hs; trivial
    | 1, hs => cases hs; exact ⟨.ref a, rfl, a, l, rfl, rfl⟩
    | i + 2, hs =>
      have : s = .un := by
        have := List.mem_of_getElem? (show (List.replicate n Slot.un)[i]? = some s from hs)
        exact (List.mem_replicate.mp this).2
      subst this
      trivial
  · intro i j p xs ys _ h
    match i, h with
    | 0, h => cases h
    | 1, h => cases h
    | i + 2, h =>
      have := List.mem_of_getElem? (show (List.replicate n Slot.un)[i]? = some (.own xs) from h)
      cases (List.mem_replicate.mp this).2
  · have z : d = .bl true := z
    subst z
    rw [show v = .bl true from r]
    exact k H2
theorem _root_.L2.Same.lay {H H1 : Hp} {q : Addr} {o : HO} (s : Same H H1) (hq : H1 q = none) : Same H (upd H1 q o) := fun b u e => by
  rw [upd_ne (ne_of_none (s b u e) hq)]
  exact s b u e
theorem cut_ints (ns : List Int) (lo hi : Option Int) : ∃ ms : List Int, cutV (ns.map V.int) lo hi = ms.map V.int ∧ ms.length ≤ ns.length := by
  refine ⟨(ns.drop (HT.sIx ns.length 0 lo)).take (HT.sIx ns.length ns.length hi - HT.sIx ns.length 0 lo), ?_, ?_⟩
  · unfold cutV
    rw [List.length_map, ← List.map_drop, ← List.map_take]
  · rw [List.length_take, List.length_drop]
    omega
theorem keepU {H : Hp} {p q : Addr} {o u : HO} (h : H p = some u) (hq : H q = none) : upd H q o p = some u := by
  rw [upd_ne (ne_of_none h hq)]
  exact h
end DL
set_option Elab.async false
set_option linter.all false
set_option maxRecDepth 100000
set_option maxHeartbeats 2000000
namespace DL
open PySem PySem.Spec L2
open PyProof.Rows hiding St
section
variable {P : Program} {w : World} {K : PySem.W.Frag} {mg mb : Str → Option Value} {CX : CXT} {k : Nat} {fa a : Addr} {fd : FuncData} {x : Str} {sp : Sp} {s₁ : Shared} {vs : List Value} {ns : List Int}
/-- the abstract heap at the law's call: the script, if it is no object of the module's own -/
def startH (K : PySem.W.Frag) (a : Addr) (vs : List Value) (ns : List Int) : Hp := fun b => match K.lookup a with
  | some _ => none
  | none => if b = a then some (.frz { cls := .type "list", data := .seq vs.toArray } (.lst (ns.map V.int))) else none
theorem startH_at {b : Addr} {u : HO} (h : startH K a vs ns b = some u) : K.lookup a = none ∧ b = a ∧ u = .frz { cls := .type "list", data := .seq vs.toArray } (.lst (ns.map V.int)) := by
  unfold startH at h
  cases q : K.lookup a with
  | some o => rw [q] at h; cases h
  | none =>
    rw [q] at h
    by_cases hb : b = a
    · rw [if_pos hb] at h
      cases h
      exact ⟨rfl, hb, rfl⟩
    · rw [if_neg hb] at h
      cases h
theorem law_callG (KX : K.In s₁.heap) (hns : s₁.heap.Ns mainGlobals mg) (hb : s₁.heap.Ns builtinsNs mb) (hbb : ∀ x : Str, x ≠ "__name__" → mb x = bootBuiltins x) (hlim : s₁.heap.NoLimit) (hg : s₁.gens = #[])
    (ha : s₁.heap.get? a = some { cls := .type "list", data := .seq vs.toArray }) (hi : IntsAre vs ns) (hl : ns.length ≤ sizeLine) (hr : RoomG k callerA)
    (F : ∀ base : Heap, K.In base → base.Ns mainGlobals mg → FnG P w K mg base CX k fa fd [x] sp) (hbind : ∀ (s : Shared) (u : Value), BindsTo s fd ⟨[u], []⟩ [(x, u)])
    (hsp : ∀ H : Hp, SqL K H a (ns.map V.int) → sp [.ref a] H (fun v _ => v = .bl true) fun _ _ _ => False) (hCX : ∀ H e s', CX [] H s₁ (fun _ _ _ => False) e s' → False) :
    codeAny (model P w) callerA (.call (.ref fa) ⟨[.ref a], []⟩) (fun r s' => r = .ok (.ret (.bool true)) ∧ OldK s₁.heap s'.heap ∧ s'.os = s₁.os ∧ AllBare s'.gens) s₁ := by
  have rel := vals_ints hi
  have hlen : ns.length = vs.length := hi.length.symm
  generalize eH : startH K a vs ns = H
  have at_ : ∀ {b : Addr} {u : HO}, H b = some u → K.lookup a = none ∧ b = a ∧ u = .frz { cls := .type "list", data := .seq vs.toArray } (.lst (ns.map V.int)) := fun {b u} h => startH_at (by rw [eH]; exact h)
  have free : ∀ {b : Addr}, b ≠ a → H b = none := fun {b} h => by
    cases q : H b with
    | none => rfl
    | some u => exact absurd (at_ q).2.1 h
  have held : HOk P w H s₁.heap := fun b u e => by
    obtain ⟨_, rfl, rfl⟩ := at_ e
    exact ⟨ha, by rw [List.length_map]; exact hl, vs, _, rel, ha⟩
  have script : SqL K H a (ns.map V.int) := by
    cases q : K.lookup a with
    | none =>
      refine .inl (.inr ⟨{ cls := .type "list", data := .seq vs.toArray }, ?_⟩)
      rw [← eH]
      unfold startH
      rw [q]
      exact if_pos rfl
    | some o =>
      have e := KX a o q
      rw [ha] at e
      cases e
      exact .inr ⟨_, vs.toArray, _, q, rfl, rfl, rfl, by rw [List.size_toArray, ← hlen]; exact hl, by simpa using rel⟩
  have notDict : ∀ {b : Addr} {o : Obj} {es : Array DictEntry} {ep : Nat}, s₁.heap.get? b = some o → o.data = .dict es ep → H b = none := fun {b o es ep} e d => free fun z => by
    subst z
    rw [ha] at e
    cases e
    cases (show Data.seq vs.toArray _ = Data.dict es ep from d)
  have ns' : ∀ {b : Addr} {m : Str → Option Value}, s₁.heap.Ns b m → (hidT s₁.heap H).Ns b m := fun {b m} ⟨o, es, ep, e, d, r⟩ => ⟨o, es, ep, hidT_get e (notDict e d), d, r⟩
  have inK : K.In (hidT s₁.heap H) := fun b o e => hidT_get (KX b o e) (by
    cases q : H b with
    | none => rfl
    | some u =>
      obtain ⟨h1, h2, _⟩ := at_ q
      rw [h2, h1] at e
      cases e)
  obtain ⟨mc, l1, l2⟩ := hlim
  have e0 : Env0 P w K mg (hidT s₁.heap H) callerA [] s₁ H :=
    ⟨rfl, ⟨inK, ns' hns, ⟨mb, ns' hb, hbb⟩, mc, ns' l1, l2⟩, fun b o e => of_hidT e, Nat.le_of_eq (hidT_size _ _), trivial, (fun b h => by cases h), held, .of_eq hg⟩
  refine codeAny_mono ((F _ inK (ns' hns)).run callerA [] s₁ H ⟨[.ref a], []⟩ [.ref a] [.ref a] _ _ hr e0 (hbind s₁ (.ref a)) (.cons rfl .nil) (hsp H script)) ?_
  rintro (e | fl) s' h
  · exact (hCX H e s' h).elim
  cases fl with
  | next => cases h
  | brk => cases h
  | cont => cases h
  | ret u =>
    obtain ⟨v, H', os, bare, un, hok', r', q⟩ := h
    have q' : v = .bl true := q
    subst q'
    obtain rfl : u = Value.bool true := r'
    refine ⟨rfl, OldK.of_keep fun b o e => ?_, os, bare⟩
    cases q : H b with
    | none => exact un.keep b o e q (by intro z; cases z) (by intro z; cases z)
    | some u =>
      obtain ⟨_, rfl, rfl⟩ := at_ q
      obtain ⟨e2, _⟩ := hok' b _ (un.frzs b _ _ q)
      rw [ha] at e
      cases e
      exact e2
end
theorem walk_ofG {l : PySem.W.OpenLaw} {n k : Nat} {q : Program} {loose : List Str} {XP : (Str → Option Value) → Heap → Prop} {YP : World → Heap → Prop} {d : DefRec} {x : Str}
    (hn : l.most = some n) (hn2 : n ≤ sizeLine) (hdf : d.params.defaults = []) (hr : RoomG k callerA)
    (F : ∀ (w : World) (mg : Str → Option Value) (fa : Addr) (h : Heap), YP w h → h.Ns mainGlobals mg → mg d.name = some (.ref fa) →
      ∃ (K : PySem.W.Frag) (fd : FuncData) (sp : Sp), K.In h ∧ (∀ (s : Shared) (u : Value), BindsTo s fd ⟨[u], []⟩ [(x, u)]) ∧
        (∀ (H : Hp) (a : Addr) (ns : List Int), ns.length ≤ n → SqL K H a (ns.map V.int) → sp [.ref a] H (fun v _ => v = .bl true) fun _ _ _ => False) ∧
        ∀ base : Heap, K.In base → base.Ns mainGlobals mg → FnG l.prog w K mg base CX0 k fa fd [x] sp) :
    PySem.W.WalkO q loose XP YP l.row.toRowW d [] (fun f vs => PySem.call f vs) :=
  Att.attach_call hn hdf fun w s₀ s₁ mg mb fa o pm cd doc a vs ns G Y ho hd hcd hmg hobj hints hlen hg =>
    let ⟨_, _, _, KX, hb, hsp, hF⟩ := F w mg fa _ Y G.T.g hmg
    law_callG KX G.T.g G.T.b G.T.builtins G.T.nolimit hg hobj hints (Nat.le_trans hlen hn2) hr hF hb (fun H hS => hsp H a ns hlen hS) fun _ _ _ z => z
/-! ### the head: facts, and some more -/
def obsE (n : Nat) (fa : List He.Fa) (fn : List He.DefD) (ex : PySem.W.Frag → Bool) (g : Addr → Option Obj) : He.AlD × Bool := (He.obsD fa fn (He.frG g (He.asD g n ++ [cStatics])), ex (He.frG g (He.asD g n ++ [cStatics])))
def hookE (n : Nat) (fa : List He.Fa) (fn : List He.DefD) (ex : PySem.W.Frag → Bool) : PySem.W.Hook where
  α := He.AlD × Bool
  obs := fun s => obsE n fa fn ex s.heap.get?
  val := fun _ => (He.valD fn, true)
  says := fun _ h => ∃ K : PySem.W.Frag, K.In h ∧ He.SaysD fa fn K ∧ ex K = true
  of := fun _ _ e => ⟨_, He.frG_in, congrArg (fun z : He.AlD × Bool => z.1) e, congrArg (fun z : He.AlD × Bool => z.2) e⟩
  keeps := fun _ _ _ ⟨K, hK, c⟩ k => ⟨K, PySem.W.Frag.In.keeps hK k, c⟩
theorem obsE_eq {n : Nat} {fa : List He.Fa} {fn : List He.DefD} {ex : PySem.W.Frag → Bool} {g : Addr → Option Obj} {s : Shared} (h : ∀ a, g a = s.heap.get? a) : obsE n fa fn ex g = (hookE n fa fn ex).obs s := by
  have e : g = s.heap.get? := funext h
  rw [e]
  rfl
def bltB (K : PySem.W.Frag) (x : Str) (b : String) : Bool := decide (PySem.W.nsIn K mainGlobals x = some (some (.builtin b)))
theorem blt_ok {K : PySem.W.Frag} {h : Heap} {mg : Str → Option Value} (X : K.In h) (G : h.Ns mainGlobals mg) {x : Str} {b : String} (c : bltB K x b = true) : mg x = some (.builtin b) := PySem.W.mg_of X G (of_decide_eq_true c)
end DL
set_option Elab.async false
set_option linter.all false
set_option maxRecDepth 100000
set_option maxHeartbeats 2000000
/-! exceptions over data: raise, calls that raise, try -/
namespace DL
open PySem PySem.Spec L2
open PyProof.Rows hiding St
/-- what the reading wishes of exceptions is what is wished below -/
def WOk (F : FP) (W : WX) : Prop := ∀ N σ H env x c od, FOk F N σ H env → XRep F.K F.Z N H x c od → F.ex x env → W c od σ H
theorem wok_none {F : FP} (h : F.ex = fun _ _ => False) {W : WX} : WOk F W := fun _ _ _ _ _ _ _ _ _ z => by
  rw [h] at z
  exact z.elim
theorem XRep.less {K : PySem.W.Frag} {Z : Zn} {N N' : Addr → Prop} {H : Hp} {x : DX} {c : Value} {od : Option Addr} (hn : ∀ p, N' p → N p) (h : XRep K Z N H x c od) : XRep K Z N' H x c od := by
  obtain ⟨h1, h2 | ⟨d, vs, e, n, h3, h4⟩⟩ := h
  · exact ⟨h1, .inl h2⟩
  · exact ⟨h1, .inr ⟨d, vs, e, fun z => n (hn d z), h3, h4.less hn⟩⟩
section
variable {P : Program} {w : World} {K : PySem.W.Frag} {mg : Str → Option Value} {base : Heap} {k : Nat} {f : Addr} {fd : FuncData} {N ps : List Str}
/-- a def that may let exceptions out -/
theorem fng_dataX {x qual : Str} {params : Arguments} {body : List Stmt} {scope : Scope} {dvs : List V} {kws : List (Str × V)} {T : TDS} (Fd : FunD K x qual params body scope dvs kws f fd) (S : FnScope N ps scope)
    (hb : ∀ (cdv : Value) (A : Around) (outer : List Env) (s : Shared) (H : Hp) (E : XK) (F : FP), F.K = K → WOk F (fun c od _ H' => E c od H') → RoomG k (A.deeper (envOfC qual scope s.heap.objs.size f cdv)) →
      PSs (cxOf (CX P w) P w K mg base N qual scope f cdv A outer s H E) body (sD F T)) : FnG P w K mg base (CX P w) (k + 1) f fd ps (spD K ps.length fun ξ ds Q => tfOf N.length T ξ ds Q) := by
  refine fng_of Fd S ?_ ?_
  · rintro vs H Q E ⟨Z, B, ds, Qd, Ed, b, r, hl, _⟩
    rw [← r.length, hl]
  · rintro cdv A outer s H vs Q E room ⟨Z, B, ds, Qd, Ed, b, r, hl, hT, hq, he⟩
    refine ⟨_, hb cdv A outer s H E ⟨K, Z, B, H, fun x _ => Ed x, B, H⟩ rfl (fun N' σ H' env x c od f' xr hx => he x c od H' f'.n.ext (xr.less f'.n.sub) hx) room, ?_⟩
    exact ⟨B, _, _, start_ok b r, hT, ⟨fun N' σ' H' env' f' _ q => hq _ _ _ f'.n.ext rep_non q, fun v H' d e r' q => hq v H' d e r' q, fun _ _ _ _ _ _ q => q.elim, fun _ _ _ _ _ _ q => q.elim⟩⟩
end
section
variable {X : Cx} {F : FP} {W : WX} {k n : Nat} {f : Addr} {fd : FuncData} {ps ks : List Str} {x : Str} {p pos : Pos} {e : Expr} {es : List Expr} {kws : List Keyword} {Tas Tks : TDA} {T : TF} {sp : Sp}
/-! ### calls that may raise -/
theorem run_gs {CX : CXT} {E : L2.St → XK} {pins : List (Addr × Obj)} {σ : L2.St} {H : Hp} {s : Shared} {Q : VK} {us : List Value} {vs : List V} {args : Args} (G : FnG X.prog X.w X.K X.mg X.base CX k f fd ps sp) (hr : RoomG k X.A) (hb : BindsTo s fd args (ps.zip us)) (hx : PassesAt CX X σ (E σ))
    (I : Inv X pins σ H s) (r : Vals vs us) (h : sp vs H Q (E σ)) : codeAny (model X.prog X.w) X.A (.call (.ref f) args) (fun r s' => match r with | .ok (.ret u) => EP X pins σ Q u s' | .ok _ => False | .error e => X.xe e s') s := by
  refine codeAny_mono (G.run X.A X.stack s H args us vs Q (E σ) hr I.env0 hb r h) fun r s' hq => ?_
  cases r with
  | error e => exact hx pins H s e s' I hq
  | ok fl =>
    cases fl with
    | ret u => exact I.after hq
    | next => exact hq
    | brk => exact hq
    | cont => exact hq
theorem pe_callGS {CX : CXT} {E : L2.St → XK} {t : TA} (G : FnG X.prog X.w X.K X.mg X.base CX k f fd ps sp) (hr : RoomG k X.A) (hg : Gl X x) (hm : X.mg x = some (.ref f)) (hk : PySem.W.keepIn X.K (.ref f) = true) (hb : Binds X.K fd ps []) (hx : ∀ σ, PassesAt CX X σ (E σ))
    (ha : PA X (e :: es) t) (hdb : (x == ("__debug__" : Str)) = false := by decide) (he : starEach (e :: es) X.env = (false, eval e X.env) :: starEach es X.env := by rfl) (hpl : (backTo pos (starEach es X.env)).any (·.1) = false := by rfl) :
    PE X (.Call (.Name x p) (e :: es) [] pos) (tCallS sp E t) := ⟨fun pins s σ H Q I h =>
  wpAny_Call_Name_kw (ld_glob I hg hm (PySem.W.callWith_K (h₀ := X.base) I.ok.mod.kin hk (thn (ha.run pos pins s σ H _ I h) fun us s1 ⟨vs, H1, I1, r, q⟩ => ⟨I1.kIn, by
    have hl : us.length = ps.length := r.length.symm.trans (G.len _ _ _ _ q)
    have b := hb s1 us I1.kIn (by simpa using hl)
    rw [List.append_nil] at b
    refine wpAny_call (codeAny_mono (run_gs G hr b (hx σ) I1 r q) fun r s' hq => ?_)
    cases r with
    | error e => exact hq
    | ok fl => cases fl <;> exact hq⟩) he hpl) hdb)⟩
def dCallX (n : Nat) (T : TF) (Ta : TDA) : TDE := fun ξ env Q => Ta ξ env fun ds => ds.length = n ∧ T (fun x => ξ x env) ds Q
theorem tCallX_imp (hK : F.K = X.K) (wo : WOk F W) : ∀ σ H Q, tD F (dCallX n T Tas) σ H Q → tCallS (spD X.K n T) (WE W) (tDA F Tas) σ H Q := by
  rintro σ H Q ⟨N, env, Qd, f, hT, k⟩
  refine ⟨N, env, _, f, hT, fun vs H1 ds e1 r1 q1 => ?_⟩
  have f1 := f.ext' e1
  refine ⟨F.Z, N, ds, Qd, _, by rw [← hK]; exact f1.n.bok, by rw [← hK]; exact r1, q1.1, q1.2, fun v H2 d e2 r2 q2 => k v H2 d (e1.trans e2) (by rw [hK]; exact r2) q2, fun x c od H2 e2 xr hx => ?_⟩
  exact wo N σ H2 env x c od (f1.ext' e2) (by rw [hK]; exact xr) hx
theorem d_callX (G : FnG X.prog X.w X.K X.mg X.base (CX X.prog X.w) k f fd ps (spD X.K n T)) (tk : Takes X W) (wo : WOk F W) (hK : F.K = X.K) (hr : RoomG k X.A) (hg : Gl X x) (hm : X.mg x = some (.ref f)) (hk : PySem.W.keepIn X.K (.ref f) = true) (hb : Binds X.K fd ps [])
    (ha : PA X (e :: es) (tDA F Tas)) (hdb : (x == ("__debug__" : Str)) = false := by decide) (he : starEach (e :: es) X.env = (false, eval e X.env) :: starEach es X.env := by rfl) (hpl : (backTo pos (starEach es X.env)).any (·.1) = false := by rfl) :
    PE X (.Call (.Name x p) (e :: es) [] pos) (tD F (dCallX n T Tas)) :=
  PE.imp (pe_callGS G hr hg hm hk hb (fun σ => passAt tk σ) ha hdb he hpl) (tCallX_imp hK wo)
def dCallKX (m n : Nat) (idx : List Nat) (T : TF) (Tk : TDA) : TDE := fun ξ env Q => Tk ξ env fun ds => (ds.length = m ∧ (perm idx ds).length = n) ∧ T (fun x => ξ x env) (perm idx ds) Q
theorem d_callKX {idx : List Nat} {m : Nat} (G : FnG X.prog X.w X.K X.mg X.base (CX X.prog X.w) k f fd ps (spD X.K n T)) (tk : Takes X W) (wo : WOk F W) (hK : F.K = X.K) (hr : RoomG k X.A) (hg : Gl X x) (hm : X.mg x = some (.ref f)) (hk : PySem.W.keepIn X.K (.ref f) = true) (hb : KB fd ps ks idx)
    (hkw : PK X kws (tDA F Tks)) (hall : (backToKw pos (keywordEach kws X.env)).all (·.1.isSome) = true := by rfl) (hks : (backToKw pos (keywordEach kws X.env)).filterMap (·.1) = ks := by rfl) (hdb : (x == ("__debug__" : Str)) = false := by decide)
    (hpl : ((backTo pos (starEach [] X.env)).any (·.1) || (backToKw pos (keywordEach kws X.env)).any (·.1.isNone)) = false := by rfl) (hml : ks.length = m := by rfl) : PE X (.Call (.Name x p) [] kws pos) (tD F (dCallKX m n idx T Tks)) := ⟨fun pins s σ H Q I h => by
  subst hml
  obtain ⟨N, env, Qd, ff, hT, kk⟩ := h
  refine wpAny_Call_Name_kw (ld_glob I hg hm (PySem.W.callWith_KW0 (h₀ := X.base) I.ok.mod.kin hk hall ?_ hpl) hdb)
  refine thn (hkw.run pos pins s σ H (fun zs H2 => ∃ ds, Ext F.Z H H2 ∧ Reps F.K F.Z N H2 ds zs ∧ (ds.length = ks.length ∧ (perm idx ds).length = n) ∧ T (fun x => F.ex x env) (perm idx ds) Qd) I ⟨N, env, _, ff, hT, fun vs H1 ds e1 r1 q1 => ⟨ds, e1, r1, q1.1, q1.2⟩⟩) ?_
  rintro ws s2 ⟨zs, H2, I2, rz, ds, e1, r1, l2, q2⟩
  rw [hks]
  have f1 := ff.ext' e1
  have hl : zs.length = ks.length := r1.length.symm.trans l2.1
  refine ⟨I2.kIn, wpAny_call (codeAny_mono (run_gs (E := WE W) (Q := Q) G hr (hb s2 ws (rz.length.symm.trans hl)) (passAt tk σ) I2 (perm_vals rz idx) ?_) fun r s' hq => ?_)⟩
  · refine ⟨F.Z, N, perm idx ds, Qd, _, by rw [← hK]; exact f1.n.bok, by rw [← hK]; exact perm_reps r1 idx, l2.2, q2, fun v H3 d e2 r2 q => kk v H3 d (e1.trans e2) (by rw [hK]; exact r2) q, fun x c od H3 e2 xr hx => ?_⟩
    exact wo N σ H3 env x c od (f1.ext' e2) (by rw [hK]; exact xr) hx
  · cases r with
    | error e => exact hq
    | ok fl => cases fl <;> exact hq⟩
/-! ### raise X() -/
theorem pmk_bare {C : Addr} {bmB : List Value} {B newId initId : String} (Fb : ExcBaseFacts B newId initId bmB) (q : PySem.W.excIn X.K C bmB newId = true) (gC : X.mg x = some (.ref C)) (kC : PySem.W.keepIn X.K (.ref C) = true) (r : Raises X (.ref C)) (hg : Gl X x)
    (hdb : (x == ("__debug__" : Str)) = false := by decide) : PMk X (.Call (.Name x p) [] [] pos) (fun _ H Q => Q (.ref C) none H) := by
  intro pins s σ H Q I h
  refine wpAny_Call_Name_kw (ld_glob I hg gC ?_ hdb)
  refine PySem.W.callWith_K0 I.kIn kC ?_
  show wpAny _ _ (call (.ref C) []) _ _ _
  obtain ⟨bm, N, nm, qn, bs, hdct, sn, sub, ab, col, dd, k0, k1, k2, k3, k5, mN, hC, hN, hni, T⟩ := exc_obj I.kIn q
  exact wpAny_call_exc_subT Fb T hC hN hni (fun h' e hm => mk_of I hm r h (I.hok.gone hm.new)) (Nat.zero_le _)
def dRaise0 (n : Str) : TDS := fun ξ _ env => ξ ⟨n, []⟩ env
theorem ds_raise0 {C : Addr} {bmB : List Value} {B newId initId : String} {pos' : Pos} (hc : X.calm = true) (tk : Takes X W) (wo : WOk F W) (hK : F.K = X.K) (Fb : ExcBaseFacts B newId initId bmB) (q : PySem.W.excIn X.K C bmB newId = true) (gC : X.mg x = some (.ref C)) (cC : clsAt X.K x = .ref C)
    (kC : PySem.W.keepIn X.K (.ref C) = true) (r : Raises X (.ref C)) (hg : Gl X x) (hdb : (x == ("__debug__" : Str)) = false := by decide) : PS X (.Raise (some (.Call (.Name x p) [] [] pos)) none pos') (sD F (dRaise0 x)) :=
  PS.imp (ps_raise hc tk (pmk_bare Fb q gC kC r hg hdb)) (by
  rintro De σ H ⟨N, env, Dd, f, hT, ok⟩
  exact wo N σ H env ⟨x, []⟩ _ none f ⟨by rw [hK]; exact cC.symm, .inl ⟨rfl, rfl⟩⟩ hT)
end
/-! ### try, one clause without a name -/
theorem FOk.rebase {F : FP} {N : Addr → Prop} {σ : L2.St} {H : Hp} {env : SE} (f : FOk F N σ H env) (ex : XW) : FOk { F with ex := ex, N1 := N, H1 := H } N σ H env := ⟨⟨f.n.deck, f.n.ext, f.n.sub, f.n.zin, f.n.all, f.n.new, .refl, f.n.tb⟩, f.len, fun i s h => by
  have q := f.slot i s h
  cases s <;> exact q, f.apart⟩
theorem FOk.back {F : FP} {N N0 : Addr → Prop} {σ : L2.St} {H H0 : Hp} {env : SE} {ex : XW} (f : FOk { F with ex := ex, N1 := N0, H1 := H0 } N σ H env) (g : Evo F.N1 F.H1 N0 H0) : FOk F N σ H env := ⟨⟨f.n.deck, f.n.ext, f.n.sub, f.n.zin, f.n.all, f.n.new, g.trans f.n.gr, f.n.tb⟩, f.len, fun i s h => by
  have q := f.slot i s h
  cases s <;> exact q, f.apart⟩
def dTry1 (m : Str → Option Bool) (body h : TDS) : TDS := fun ξ De env => body (fun x env' => match m x.cls with
  | some true => h (fun _ _ => False) De env'
  | some false => ξ x env'
  | none => False) De env
theorem PSs.exP {X : Cx} {sts : List Stmt} {α : Sort _} {t : α → TS} (h : ∀ i, PSs X sts (t i)) : PSs X sts (fun De σ H => ∃ i, t i De σ H) := ⟨fun pins s σ H De I ⟨i, q⟩ => (h i).run pins s σ H De I q⟩
theorem PSs.andP {X : Cx} {sts : List Stmt} {p : Prop} {t : TS} (h : p → PSs X sts t) : PSs X sts (fun De σ H => p ∧ t De σ H) := ⟨fun pins s σ H De I ⟨i, q⟩ => (h i).run pins s σ H De I q⟩
theorem ds_try1 {X : Cx} {F : FP} {W : WX} {x : Str} {c : Value} {m : Str → Option Bool} {body suite : List Stmt} {b₀ : Stmt} {np pos pos' : Pos} {Tb Th : TDS} (hK : F.K = X.K) (hs : X.stack = X.env :: X.outer) (hf : X.env.frame = some X.env.locals) (hc : Names X x c) (tk : Takes X W) (wo : WOk F W)
    (hm : ∀ n b, m n = some b → PySem.W.exmOne X.K (clsAt X.K n) c = some b)
    (hb : ∀ (W : WX) (pn : List (Addr × Obj)) (xe : Value → Shared → Prop) (F' : FP), Takes (X.tr pn xe) W → PassesOwn (model X.prog X.w) X.A X.env xe → F'.K = F.K → WOk F' W → PSs (X.tr pn xe) body (sD F' Tb))
    (hsu : ∀ (a : Addr) (pn : List (Addr × Obj)), PSs (X.suite a pn) (b₀ :: suite) (sD F.calm Th)) :
    PS X (.Try body [.ExceptHandler (some (.Name x np)) none (b₀ :: suite) pos'] [] [] pos) (sD F (dTry1 m Tb Th)) := by
  refine PS.imp (ps_try_only (tb := fun W De σ H => ∃ F' : FP, (F'.K = F.K ∧ WOk F' W) ∧ sD F' Tb De σ H) (ts := fun _ _ _ => sD F.calm Th) hs hf hc tk (fun W pn xe t1 p1 => PSs.exP fun F' => PSs.andP fun h => hb W pn xe F' t1 p1 h.1 h.2) fun a oe cls d pn _ _ => hsu a _) ?_
  rintro De σ H ⟨N, env, Dd, f, hT, ok⟩
  have g := f.n.gr
  refine ⟨{ F with ex := _, N1 := N, H1 := H }, ⟨rfl, ?_⟩, N, env, Dd, f.rebase _, hT, ⟨fun N' σ' H' env' f' ev q => ok.nx N' σ' H' env' (f'.back g) ev q, ok.rt, fun N' σ' H' env' f' ev q => ok.bk N' σ' H' env' (f'.back g) ev q, fun N' σ' H' env' f' ev q => ok.ct N' σ' H' env' (f'.back g) ev q⟩⟩
  intro N' σ' H' env' y c' od f' xr hx
  have e := xr.1
  have fb := f'.back g
  have hx : (match m y.cls with
    | some true => Th (fun _ _ => False) Dd env'
    | some false => F.ex y env'
    | none => False) := hx
  cases q : m y.cls with
  | none => rw [q] at hx; exact hx.elim
  | some b =>
    rw [q] at hx
    have em := hm _ _ q
    refine ⟨b, by rw [e]; rw [← hK] at em ⊢; exact em, fun hb1 a _ => ?_, fun hb0 => ?_⟩
    · subst hb1
      have ok' := ok.of f'.n.gr
      exact ⟨N', env', Dd, fb.wish _, hx, ⟨fun N2 σ2 H2 env2 f2 ev q => ok'.nx N2 σ2 H2 env2 f2.unwish ev q, ok'.rt, fun N2 σ2 H2 env2 f2 ev q => ok'.bk N2 σ2 H2 env2 f2.unwish ev q, fun N2 σ2 H2 env2 f2 ev q => ok'.ct N2 σ2 H2 env2 f2.unwish ev q⟩⟩
    · subst hb0
      exact wo N' σ' H' env' y c' od fb xr hx
end DL
set_option Elab.async false
set_option linter.all false
set_option maxRecDepth 100000
set_option maxHeartbeats 2000000
/-! more operators over data -/
namespace DL
open PySem PySem.Spec L2
open PyProof.Rows hiding St
/-! ### gcd of three -/
theorem args_gcd3 (a b c : Value) : argsOk "math.gcd" ⟨[a, b, c], []⟩ := by unfold argsOk; kernel_rfl
theorem gives_gcd3 (a : Int) (t : Tok) (b : Int) (u : Tok) (c : Int) (v : Tok) : Gives (Builtin.«math.gcd» ⟨[.int a t, .int b u, .int c v], []⟩) (.int (((((Nat.gcd 0 a.natAbs).gcd b.natAbs).gcd c.natAbs : Nat) : Int))) :=
  .of_wp fun M A E s Q h => by
    obtain ⟨hp, g, d, tk, os⟩ := s
    wp_walk
    exact ⟨_, rfl, h⟩
def rGcd3 : List V → Hp → VK → Prop := fun vs H Q => ∃ a b c : Int, vs = [.int a, .int b, .int c] ∧ Q (.int (((Nat.gcd a.natAbs b.natAbs).gcd c.natAbs : Nat) : Int)) H
section
variable {X : Cx} {F : FP} {a b c e : Expr} {es : List Expr} {pos : Pos} {Ta Tb Tc : TDE} {Tas : TDA}
theorem cr_gcd3 : CallR X (.builtin "math.gcd") rGcd3 := by
  intro pins s σ H vs us Q I r h
  obtain ⟨a, b, c, rfl, q⟩ := h
  cases r with
  | cons r1 r =>
    obtain ⟨t, rfl⟩ := r1
    obtain ⟨u, v, rfl⟩ := Vals.int2 r
    have g := gives_gcd3 a t b u c v
    rw [Nat.gcd_zero_left] at g
    exact call_function_meets PySem.W.MGF.kind_gcd PySem.W.MGF.plain_gcd PySem.W.MGF.entry_gcd (args_gcd3 _ _ _) g.meets ⟨.int _, H, I.tok _, ⟨_, rfl⟩, q⟩
def gGcd3 : GA := fun xs Q => match xs with
  | [.int a, .int b, .int c] => Q (.int (((Nat.gcd a.natAbs b.natAbs).gcd c.natAbs : Nat) : Int))
  | _ => False
theorem cd_gcd3 : CallD F rGcd3 gGcd3 := ⟨by
  intro N H vs ds Qd Q n r h k
  unfold gGcd3 at h
  split at h
  · obtain ⟨v1, r1, rfl, h1, v2, r2, rfl, h2, v3, r3, rfl, h3, rfl⟩ := r
    cases (show v1 = .int _ from h1)
    cases (show v2 = .int _ from h2)
    cases (show v3 = .int _ from h3)
    exact ⟨_, _, _, rfl, k _ _ _ Ext.refl rep_int h⟩
  · exact h.elim⟩
/-! ### + and * of ints, lists, tuples -/
theorem opd_or {r r' : R2} {g g' g2 : G2} (h : OpD F r g) (h' : OpD F r' g') (e : ∀ x y Q, g2 x y Q → g x y Q ∨ g' x y Q) : OpD F (fun x y H Q => r x y H Q ∨ r' x y H Q) g2 := ⟨fun N H x y dx dy Qd Q n rx ry hg k => (e dx dy Qd hg).elim (fun q => .inl (h.ok N H x y dx dy Qd Q n rx ry q k)) (fun q => .inr (h'.ok N H x y dx dy Qd Q n rx ry q k))⟩
def gCatL : G2 := fun x y Q => match x, y with
  | .lst xs, .lst ys => xs.length + ys.length ≤ sizeLine ∧ Q (.lst (xs ++ ys))
  | _, _ => False
theorem opd_catL : OpD F rCat gCatL := ⟨by
  intro N H x y dx dy Qd Q n rx ry h k
  unfold gCatL at h
  split at h
  · obtain ⟨l, vs, rfl, nl, hl, rl⟩ := rx
    obtain ⟨b, ws, rfl, nb, hb, rb⟩ := ry
    exact ⟨l, b, vs, ws, rfl, rfl, hl, hb, by rw [← rl.length, ← rb.length]; exact h.1, fun p hp => k _ _ _ (n.lay hp) (rep_newL n hp (rl.append rb)) h.2⟩
  · exact h.elim⟩
def gCatT : G2 := fun x y Q => match x, y with
  | .tup xs, .tup ys => xs.length + ys.length ≤ sizeLine ∧ Q (.tup (xs ++ ys))
  | _, _ => False
theorem opd_catT : OpD F (rCatA F.K) gCatT := ⟨by
  intro N H x y dx dy Qd Q n rx ry h k
  unfold gCatT at h
  split at h
  · rename_i xs ys
    have rx0 := rx
    have ry0 := ry
    obtain ⟨l, vs, rfl, hl, rl⟩ := rx
    obtain ⟨b, ws, rfl, hb, rb⟩ := ry
    refine ⟨l, b, vs, ws, rfl, rfl, sqt_of hl, sqt_of hb, by rw [← rl.length, ← rb.length]; exact h.1, fun e => ?_, fun e1 e2 => ?_, fun _ _ p hp => k _ _ _ (n.lay hp) (rep_newT n hp (rl.append rb)) h.2⟩
    · have : xs = [] := List.eq_nil_of_length_eq_zero (by rw [rl.length, e]; rfl)
      subst this
      exact k _ _ _ Ext.refl ry0 h.2
    · have : ys = [] := List.eq_nil_of_length_eq_zero (by rw [rb.length, e2]; rfl)
      subst this
      refine k _ _ _ Ext.refl rx0 ?_
      have z := h.2
      rw [List.append_nil] at z
      exact z
  · exact h.elim⟩
def gAddA : G2 := fun x y Q => match x, y with
  | .int i, .int j => Q (.int (i + j))
  | .lst xs, .lst ys => xs.length + ys.length ≤ sizeLine ∧ Q (.lst (xs ++ ys))
  | .tup xs, .tup ys => xs.length + ys.length ≤ sizeLine ∧ Q (.tup (xs ++ ys))
  | _, _ => False
theorem opd_addA : OpD F (fun x y H Q => rI0 (fun i j => .int (i + j)) x y H Q ∨ (rCat x y H Q ∨ rCatA F.K x y H Q)) gAddA :=
  opd_or (g := gAdd) (g' := fun x y Q => gCatL x y Q ∨ gCatT x y Q) (opd_I0 fun _ _ _ _ => rfl) (opd_or opd_catL opd_catT fun _ _ _ h => h) (by
    intro x y Q h
    unfold gAddA at h
    split at h
    · exact .inl h
    · exact .inr (.inl h)
    · exact .inr (.inr h)
    · exact h.elim)
theorem d_addA (hK : F.K = X.K) (ha : PE X a (tD F Ta)) (hb : PE X b (tD F Tb)) : PE X (.BinOp a .Add b pos) (tD F (dBin gAddA Ta Tb)) := by
  have o := opd_addA (F := F)
  rw [hK] at o
  exact d_op (op_add.or (op_cat.or op_catA)) o ha hb
def gRepL : G2 := fun x y Q => match x, y with
  | .lst xs, .int k => (-(2 ^ 63) ≤ k ∧ k < 2 ^ 63 ∧ xs.length * k.toNat ≤ sizeLine) ∧ Q (.lst (List.replicate k.toNat xs).flatten)
  | _, _ => False
theorem reps_flat {K : PySem.W.Frag} {Z : Zn} {N : Addr → Prop} {H : Hp} {xs : List D} {vs : List V} (r : Reps K Z N H xs vs) : ∀ n, Reps K Z N H (List.replicate n xs).flatten (List.replicate n vs).flatten
  | 0 => rfl
  | n + 1 => by
    rw [List.replicate_succ, List.replicate_succ, List.flatten_cons, List.flatten_cons]
    exact r.append (reps_flat r n)
theorem opd_repL : OpD F rRep gRepL := ⟨by
  intro N H x y dx dy Qd Q n rx ry h k
  unfold gRepL at h
  split at h
  · obtain ⟨l, vs, rfl, nl, hl, rl⟩ := rx
    cases (show y = .int _ from ry)
    exact ⟨l, _, vs, rfl, rfl, hl, h.1.1, h.1.2.1, by rw [← rl.length]; exact h.1.2.2, fun p hp => k _ _ _ (n.lay hp) (rep_newL n hp (reps_flat rl _)) h.2⟩
  · exact h.elim⟩
def gMulA : G2 := fun x y Q => match x, y with
  | .int i, .int j => CMulW i j ∧ Q (.int (i * j))
  | .lst xs, .int k => (-(2 ^ 63) ≤ k ∧ k < 2 ^ 63 ∧ xs.length * k.toNat ≤ sizeLine) ∧ Q (.lst (List.replicate k.toNat xs).flatten)
  | _, _ => False
theorem opd_mulA : OpD F (fun x y H Q => rI CMulW (fun i j => .int (i * j)) x y H Q ∨ rRep x y H Q) gMulA :=
  opd_or (g := gMul) (opd_I fun _ _ _ _ => rfl) opd_repL (by
    intro x y Q h
    unfold gMulA at h
    split at h
    · exact .inl h
    · exact .inr h
    · exact h.elim)
theorem d_mulA (ha : PE X a (tD F Ta)) (hb : PE X b (tD F Tb)) : PE X (.BinOp a .Mult b pos) (tD F (dBin gMulA Ta Tb)) := d_op (op_mulW.or op_rep) opd_mulA ha hb
/-! ### // of great ints, by any divisor but 0 -/
def CDivB (i j : Int) : Prop := j ≠ 0 ∧ (i.natAbs.log2 < 13000 ∨ j.natAbs.log2 < 8990)
theorem near_div {i j : Int} (h : i.natAbs.log2 < 13000) : Builtin.divisionGoesByPylong i j = false := by
  unfold Builtin.divisionGoesByPylong
  have a : (if i == 0 then 0 else i.natAbs.log2 / 30 + 1) ≤ 434 := by split <;> omega
  simp only [Bool.and_eq_false_iff, decide_eq_false_iff_not]
  omega
theorem far_div {i j : Int} (h : j.natAbs.log2 < 8990) : Builtin.divisionGoesByPylong i j = false := by
  unfold Builtin.divisionGoesByPylong
  have a : (if j == 0 then 0 else j.natAbs.log2 / 30 + 1) ≤ 300 := by split <;> omega
  simp only [Bool.and_eq_false_iff, decide_eq_false_iff_not]
  omega
theorem op_fdivB : OpR X (binaryOp .FloorDiv) (rI CDivB fun i j => .int (i.fdiv j)) := opI fun i j _ _ _ _ _ hc q => floordiv_int hc.1 q (.inl (hc.2.elim near_div far_div))
abbrev gDivB : G2 := gI CDivB fun i j => .int (i.fdiv j)
theorem d_divB (ha : PE X a (tD F Ta)) (hb : PE X b (tD F Tb)) : PE X (.BinOp a .FloorDiv b pos) (tD F (dBin gDivB Ta Tb)) := d_op op_fdivB (opd_I fun _ _ _ _ => rfl) ha hb
end
end DL
set_option Elab.async false
set_option linter.all false
set_option maxRecDepth 100000
set_option maxHeartbeats 2000000
/-! texts of great ints: the digits' limit is the usual one -/
namespace DL
open PySem PySem.Spec L2
open PyProof.Rows hiding St
/-- the limit of digits was never set -/
def NoMax (h : Heap) : Prop := ∃ mc, h.Ns cStatics mc ∧ mc "sys.int_max_str_digits" = none
theorem NoMax.keeps {h h' : Heap} (x : NoMax h) (k : ∀ b o, h.get? b = some o → h'.get? b = some o) : NoMax h' := by
  obtain ⟨mc, ⟨o, es, ep, e, d, r⟩, q⟩ := x
  exact ⟨mc, ⟨o, es, ep, k _ _ e, d, r⟩, q⟩
section
variable {M : Model} {A : Around} {E : Value → Shared → Prop} {s : Shared}
theorem over_none {a : Int} (h : a.natAbs.log2 < 12900) (hn : NoMax s.heap) {Q : Option Nat → Shared → Prop} (q : Q none s) : wpAny M A (Builtin.overDigitLimit? a) Q E s := by
  unfold Builtin.overDigitLimit?
  by_cases h1 : a.natAbs.log2 < 1920
  · rw [if_pos h1]; exact wpAny_pure q
  rw [if_neg h1]
  obtain ⟨mc, hns, hk⟩ := hn
  unfold Builtin.intMaxStrDigits
  refine wpAny_bind (wpAny_bind (wpAny_nsGet hns ?_))
  rw [hk]
  refine wpAny_pure ?_
  have h2 : ¬ (a.natAbs.log2 / 30 + 1 > 1000) := by omega
  have h3 : ((4300 == 0) || decide (a.natAbs.log2 < 3 * 4300)) = true := by
    rw [Bool.or_eq_true]; exact .inr (decide_eq_true (by omega))
  simp only [h2, if_false, h3, if_true]
  exact wpAny_pure q
theorem gives_repr_big (a : Int) (t : Tok) (h : a.natAbs.log2 < 12900) : GivesAt (fun s => NoMax s.heap) (Builtin.«int.__repr__» ⟨[.int a t], []⟩) (.str (toString a)) := by
  intro prog w A R s hn hp
  unfold Builtin.«int.__repr__»
  show wpAny (model prog w) A.in1 (do let r ← Builtin.overDigitLimit? a; _) _ _ s
  refine wpAny_bind (over_none h hn ?_)
  exact (show Gives _ (.str (toString a)) from .of_eq rfl) prog w A R s hp
end
section
variable {prog : Program} {w : World} {A : Around} {E : Value → Shared → Prop} {s : Shared}
theorem big_fits {a : Int} (h : a.natAbs.log2 < 12900) : (Str.ofString (toString a)).length ≤ sizeLine := by
  have e := int_text_length_le (k := 12900) (by decide) h
  rw [PySem.ofString_length, sizeLine_eq]
  omega
theorem reprObj_big {a : Int} {t : Tok} {Q : Value → Shared → Prop} (ha : a.natAbs.log2 < 12900) (hn : NoMax s.heap) (h : Q (.str (toString a) s.toks) { s with toks := s.toks + 1 }) : wpAny (model prog w) A (pyReprObj (.int a t)) Q E s := by
  unfold pyReprObj
  have hv : [Value.int a t].any Value.onHeap = false := rfl
  simp only [cRoomFor, hv, Bool.false_eq_true, if_false, pure_bind]
  refine wpAny_bind (wpAny_specialOf (name := Str.ofString "__repr__") (typeIs_int s a t) F.slot_int_repr.lookup ?_)
  refine wpAny_bind (m := callSpecialIfBound? (.int a t) (Str.ofString "__repr__")) (wpAny_callSpecialIfBound?_slot (name := Str.ofString "__repr__") (typeIs_int s a t) F.slot_int_repr (call_givesAt F.slot_int_repr (typeIs_int s a t) F.entry_int_repr (F.args_int_repr_1 _) (gives_repr_big a t ha) hn ⟨big_fits ha, ?_⟩))
  exact wpAny_bind (wpAny_isInstance (T := "str") (b := true) rfl isSubtype_str_str (wpAny_pure h))
theorem ReprK.big {h₀ : Heap} {a : Int} (t : Tok) (ha : a.natAbs.log2 < 12900) (hn : NoMax h₀) (as : List Addr) (d : Nat) : ReprK prog w as h₀ d (.int a t) (toString a) := fun n hb A _ E s Q _ _ _ hk hQ => by
  have hn' : n ≤ sizeLine := by omega
  rw [pyReprUnder_leaf (v := .int a t) hn' (fun _ e => nomatch e)]
  unfold pyRepr
  exact wpAny_bind (reprObj_big ha (hn.keeps hk) (wpAny_pure (hQ s.heap _ fun _ _ e => e)))
end
/-! ### data without dicts, ints of up to 12900 bits -/
mutual
def bigOk : PyData → Bool
  | .none | .bool _ | .str _ => true
  | .int i => decide (i.natAbs.log2 < 12900)
  | .list xs | .tuple xs => bigOks xs
  | .dict _ => false
def bigOks : List PyData → Bool
  | [] => true
  | x :: xs => bigOk x && bigOks xs
end
section
variable {prog : Program} {w : World} {h₀ : Heap}
theorem ram_cons {n : Nat} {a : Addr} {d : PyData} {as bs : List Addr} {m : Nat} (r : Reads h₀ (.ref a) d as) (h1 : d.depth ≤ m) (h2 : n ≤ m) (hb : ReadAtMost h₀ n bs) : ReadAtMost h₀ m (a :: bs) := by
  intro b q
  cases q with
  | head => exact ⟨_, _, r, h1⟩
  | tail _ q =>
    obtain ⟨e, cs, r', l⟩ := hb b q
    exact ⟨e, cs, r', Nat.le_trans l h2⟩
/-- the text of v is told, whatever else happens -/
def Told (prog : Program) (w : World) (h₀ : Heap) (v : Value) (n : Nat) (t : Str) : Prop := ∃ bs, ReadAtMost h₀ n bs ∧ ReprK prog w bs h₀ n v t
def Tolds (prog : Program) (w : World) (h₀ : Heap) (vs : List Value) (n : Nat) (ts : List Str) : Prop := ∃ bs, ReadAtMost h₀ n bs ∧ ReprAllK prog w bs h₀ n vs ts
theorem Told.flat {v : Value} {n : Nat} {t : Str} (h : ReprK prog w [] h₀ n v t) : Told prog w h₀ v n t := ⟨[], nofun, h⟩
theorem Tolds.nil {n : Nat} : Tolds prog w h₀ [] n [] := ⟨[], nofun, .nil⟩
theorem Tolds.cons {v : Value} {vs : List Value} {n m : Nat} {t : Str} {ts : List Str} (h : Told prog w h₀ v n t) (r : Tolds prog w h₀ vs m ts) : Tolds prog w h₀ (v :: vs) (max n m) (t :: ts) := by
  obtain ⟨b, hb, k⟩ := h
  obtain ⟨c, hc, q⟩ := r
  refine ⟨b ++ c, fun p hp => ?_, .cons ((k.more fun p hp => List.mem_append.mpr (.inl hp)).level_le (Nat.le_max_left n m)) (q.more_le (fun p hp => List.mem_append.mpr (.inr hp)) (Nat.le_max_right n m))⟩
  rcases List.mem_append.mp hp with z | z
  · obtain ⟨e, cs, x, y⟩ := hb p z
    exact ⟨e, cs, x, Nat.le_trans y (Nat.le_max_left n m)⟩
  · obtain ⟨e, cs, x, y⟩ := hc p z
    exact ⟨e, cs, x, Nat.le_trans y (Nat.le_max_right n m)⟩
theorem told_tup {a : Addr} {d : PyData} {xs : List PyData} {as : List Addr} (hd : d = .tuple xs) (r : Reads h₀ (.ref a) d as) (hk : ∀ vs cs, ReadsAll h₀ vs xs cs → Tolds prog w h₀ vs (PyData.depthAll xs) (PyData.shownAll xs)) :
    Told prog w h₀ (.ref a) d.depth d.shown := by
  cases r with
  | tuple h1 h2 h3 h4 =>
    cases hd
    obtain ⟨c, hc, q⟩ := hk _ _ h4
    have dp : (PyData.tuple xs).depth = PyData.depthAll xs + 1 := by simp only [PyData.depth]
    rw [dp, show (PyData.tuple xs).shown = tupleText (PyData.shownAll xs) by simp only [PyData.shown]]
    exact ⟨a :: c, ram_cons (.tuple h1 h2 h3 h4) (Nat.le_of_eq dp) (Nat.le_succ _) hc, ReprK.tuple h1 h2 h3 (not_mem_of_deeper (.tuple h1 h2 h3 h4) (by rw [dp]; exact Nat.lt_succ_self _) hc) q⟩
  | _ => cases hd
theorem told_lst {a : Addr} {d : PyData} {xs : List PyData} {as : List Addr} (hd : d = .list xs) (r : Reads h₀ (.ref a) d as) (hk : ∀ vs cs, ReadsAll h₀ vs xs cs → Tolds prog w h₀ vs (PyData.depthAll xs) (PyData.shownAll xs)) :
    Told prog w h₀ (.ref a) d.depth d.shown := by
  cases r with
  | list h1 h2 h3 h4 =>
    cases hd
    obtain ⟨c, hc, q⟩ := hk _ _ h4
    have dp : (PyData.list xs).depth = PyData.depthAll xs + 1 := by simp only [PyData.depth]
    rw [dp, show (PyData.list xs).shown = listText (PyData.shownAll xs) by simp only [PyData.shown]]
    have na := not_mem_of_deeper (.list h1 h2 h3 h4) (by rw [dp]; exact Nat.lt_succ_self _) hc
    refine ⟨a :: c, ram_cons (.list h1 h2 h3 h4) (Nat.le_of_eq dp) (Nat.le_succ _) hc, ?_⟩
    rename_i o vs n cs
    obtain ⟨l⟩ := vs
    cases l with
    | nil =>
      cases (show ReadsAll h₀ [] xs _ from h4)
      rw [show listText (PyData.shownAll []) = ("[]" : Str) by simp only [PyData.shownAll, listText_nil]]
      exact ReprK.listEmpty h1 h2 h3
    | cons x l => exact ReprK.list h1 h2 h3 na (by simpa using q.length_eq) fun i y e => q.item i y (by simpa using e)
  | _ => cases hd
mutual
theorem told_big (hn : NoMax h₀) : ∀ (d : PyData) {v : Value} {as : List Addr}, Reads h₀ v d as → bigOk d = true → d.shown.length ≤ sizeLine → Told prog w h₀ v d.depth d.shown
  | .none, _, _, r, _, _ => by cases r; rw [show PyData.none.shown = ("None" : Str) by simp only [PyData.shown]]; exact .flat (.of_is .none _ _ _)
  | .bool b, _, _, r, _, _ => by cases r; rw [show (PyData.bool b).shown = ((if b then "True" else "False") : Str) by simp only [PyData.shown]]; exact .flat (.of_is (.bool b) _ _ _)
  | .int i, _, _, r, h, _ => by cases r; rw [show (PyData.int i).shown = toString i by simp only [PyData.shown]]; exact .flat (ReprK.big _ (by simpa [bigOk] using h) hn _ _)
  | .str x, _, _, r, _, z => by cases r; rw [show (PyData.str x).shown = reprText x by simp only [PyData.shown]] at z ⊢; exact .flat (.of_is (.str x _ z) _ _ _)
  | .tuple xs, v, as, r, h, z => by
    rw [show (PyData.tuple xs).shown = tupleText (PyData.shownAll xs) by simp only [PyData.shown]] at z
    have r' := r
    cases r'
    exact told_tup rfl r fun vs cs q => tolds_big hn xs q (by simpa [bigOk] using h) fun t m => Nat.le_trans (tupleText_mem_le m) z
  | .list xs, v, as, r, h, z => by
    rw [show (PyData.list xs).shown = listText (PyData.shownAll xs) by simp only [PyData.shown]] at z
    have r' := r
    cases r'
    exact told_lst rfl r fun vs cs q => tolds_big hn xs q (by simpa [bigOk] using h) fun t m => Nat.le_trans (listText_mem_le m) z
  | .dict _, _, _, _, h, _ => by simp [bigOk] at h
theorem tolds_big (hn : NoMax h₀) : ∀ (ds : List PyData) {vs : List Value} {as : List Addr}, ReadsAll h₀ vs ds as → bigOks ds = true → (∀ t ∈ PyData.shownAll ds, t.length ≤ sizeLine) → Tolds prog w h₀ vs (PyData.depthAll ds) (PyData.shownAll ds)
  | [], _, _, r, _, _ => by cases r; rw [show PyData.shownAll [] = [] by simp only [PyData.shownAll]]; exact .nil
  | d :: ds, _, _, r, h, z => by
    cases r with
    | cons r rs =>
      rw [show PyData.shownAll (d :: ds) = d.shown :: PyData.shownAll ds by simp only [PyData.shownAll]] at z ⊢
      rw [show PyData.depthAll (d :: ds) = max d.depth (PyData.depthAll ds) by simp only [PyData.depthAll]]
      have h' : bigOk d = true ∧ bigOks ds = true := by simpa [bigOks] using h
      exact .cons (told_big hn d r h'.1 (z _ (List.mem_cons_self ..))) (tolds_big hn ds rs h'.2 fun t m => z t (List.mem_cons_of_mem _ m))
end
end
end DL
set_option Elab.async false
set_option linter.all false
set_option maxRecDepth 100000
set_option maxHeartbeats 2000000
namespace DL
open PySem PySem.Spec L2
open PyProof.Rows hiding St
section
variable {prog : Program} {w : World} {h₀ : Heap} {A : Around} {E : Value → Shared → Prop} {s : Shared}
/-- repr of a list or a tuple whose ints are of any usual size -/
theorem repr_seq {a : Addr} {d : PyData} {as : List Addr} {Q : Value → Shared → Prop} (r : Reads s.heap (.ref a) d as) (hn : NoMax s.heap) (hb : bigOk d = true) (hz : d.shown.length ≤ sizeLine) (hg : A.guards = some []) (hu : A.units + (d.depth + 1) < cLine)
    (hQ : ∀ h' u tk, (∀ b o, s.heap.get? b = some o → h'.get? b = some o) → Q (.str d.shown u) { s with heap := h', toks := tk }) : wpAny (model prog w) A (call (.builtin "repr") [.ref a]) Q E s := by
  have hu1 : A.in1.units + d.depth < cLine := by
    show A.units + 1 + d.depth < cLine
    omega
  have r' := r
  cases d with
  | list xs =>
    cases r' with
    | list h1 h2 h3 h4 =>
      rename_i o vs n cs
      have zz : (PyData.list xs).shown = listText (PyData.shownAll xs) := by simp only [PyData.shown]
      have dd : (PyData.list xs).depth = PyData.depthAll xs + 1 := by simp only [PyData.depth]
      rw [zz] at hz hQ
      rw [dd] at hu1
      refine call_repr_slot (T := "list") (by omega) ⟨o, h1, h2⟩ F.slot_list_repr.toG ?_
      obtain ⟨bs, hbs, hk⟩ := tolds_big (prog := prog) (w := w) hn xs h4 (by simpa [bigOk] using hb) fun t m => Nat.le_trans (listText_mem_le m) hz
      obtain ⟨l⟩ := vs
      cases l with
      | nil =>
        cases (show ReadsAll s.heap [] xs _ from h4)
        rw [show listText (PyData.shownAll []) = ("[]" : Str) by simp only [PyData.shownAll, listText_nil]] at hQ
        exact call_list_repr_empty ⟨o, h1, h2⟩ h1 h3 ⟨_, _, rfl, hQ s.heap _ _ fun _ _ e => e⟩
      | cons x l =>
        have na := not_mem_of_deeper r (by rw [dd]; exact Nat.lt_succ_self _) hbs
        exact call_list_reprK h1 h2 h3 na (by simpa using hk.length_eq) (fun i y e => hk.item i y (by simpa using e)) hg (fun b _ => Clear.nil b) hu1 (fun _ _ e => e) (fun h' u tk k => ⟨_, _, rfl, hQ h' u tk k⟩) hz
  | tuple xs =>
    cases r' with
    | tuple h1 h2 h3 h4 =>
      rename_i o vs n
      have zz : (PyData.tuple xs).shown = tupleText (PyData.shownAll xs) := by simp only [PyData.shown]
      have dd : (PyData.tuple xs).depth = PyData.depthAll xs + 1 := by simp only [PyData.depth]
      rw [zz] at hz hQ
      rw [dd] at hu1
      refine call_repr_slot (T := "tuple") (by omega) ⟨_, h1, h2⟩ F.slot_tuple_repr ?_
      obtain ⟨bs, hbs, hk⟩ := tolds_big (prog := prog) (w := w) hn xs h4 (by simpa [bigOk] using hb) fun t m => Nat.le_trans (tupleText_mem_le m) hz
      have na := not_mem_of_deeper r (by rw [dd]; exact Nat.lt_succ_self _) hbs
      exact call_tuple_reprK h1 h2 h3 na hk hg (fun b _ => Clear.nil b) hu1 (fun _ _ e => e) (fun h' u tk k => ⟨_, _, rfl, hQ h' u tk k⟩) hz
  | dict kvs => simp [bigOk] at hb
  | _ => cases r'
end
/-- the module's own facts say that the limit was not set -/
def mxB (K : PySem.W.Frag) : Bool := decide (PySem.W.nsIn K cStatics "sys.int_max_str_digits" = some none)
theorem nomax_of {K : PySem.W.Frag} {h : Heap} (X : K.In h) (hl : h.NoLimit) (c : mxB K = true) : NoMax h := by
  obtain ⟨mc, hn, _⟩ := hl
  exact ⟨mc, hn, PySem.W.ns_none_of X hn (of_decide_eq_true c)⟩
section
variable {X : Cx} {F : FP} {e : Expr} {es : List Expr} {pos : Pos} {Tas : TDA} {pins : List (Addr × Obj)} {σ : L2.St} {H : Hp} {s : Shared}
theorem inv_nomax (I : Inv X pins σ H s) (c : mxB X.K = true) : NoMax s.heap := (nomax_of I.ok.mod.kin I.ok.mod.nolimit c).keeps I.bk
/-- as showOk, of tuples and lists, ints of up to 12900 bits -/
def showB (d : D) : Prop := plain d = true ∧ bigOk (toP d) = true ∧ (toP d).depth ≤ 64 ∧ ((toP d).shown).length ≤ sizeLine
def gReprB : GA := fun xs Q => match xs with
  | [.tup ds] => showB (.tup ds) ∧ Q (.str (toP (.tup ds)).shown)
  | [.lst ds] => showB (.lst ds) ∧ Q (.str (toP (.lst ds)).shown)
  | _ => False
def rReprB (K : PySem.W.Frag) : List V → Hp → VK → Prop := fun vs H Q => ∃ a d, vs = [.ref a] ∧ Dp K H (.ref a) d ∧ bigOk d = true ∧ d.depth ≤ 64 ∧ d.shown.length ≤ sizeLine ∧ Q (.str d.shown) H
theorem cr_reprB (c : mxB X.K = true) (hg : X.A.guards = some []) (hu : X.A.units + 80 < cLine) : CallR X (.builtin "repr") (rReprB X.K) := by
  intro pins s σ H vs us Q I r h
  obtain ⟨a, d, rfl, dp, h1, h3, h4, q⟩ := h
  obtain ⟨u, rfl, rv⟩ := vals1 r
  obtain ⟨as, rd⟩ := Dp.reads I d _ u dp rv
  cases rv
  exact repr_seq rd (inv_nomax I c) h1 h4 hg (by omega) fun h' u tk hk => ⟨.str _, H, I.kept (t' := tk) hk, ⟨_, rfl⟩, q⟩
theorem cd_reprB : CallD F (rReprB F.K) gReprB := ⟨by
  intro N H vs ds Qd Q n r h k
  unfold gReprB at h
  split at h
  · rename_i d
    obtain ⟨v, r, rfl, h1, h2⟩ := r
    cases h2
    obtain ⟨⟨p, s1, s2, s3⟩, q⟩ := h
    have h1' := h1
    obtain ⟨a, vs, rfl, _⟩ := h1'
    exact ⟨a, _, rfl, Rep.dp _ _ p h1, s1, s2, s3, k _ _ _ Ext.refl rep_str q⟩
  · rename_i d
    obtain ⟨v, r, rfl, h1, h2⟩ := r
    cases h2
    obtain ⟨⟨p, s1, s2, s3⟩, q⟩ := h
    have h1' := h1
    obtain ⟨a, vs, rfl, _⟩ := h1'
    exact ⟨a, _, rfl, Rep.dp _ _ p h1, s1, s2, s3, k _ _ _ Ext.refl rep_str q⟩
  · exact h.elim⟩
theorem d_reprB {p : Pos} (hK : F.K = X.K) (c : mxB X.K = true) (hgd : X.A.guards = some []) (hu : X.A.units + 80 < cLine) (hg : Gl X "repr") (hm : X.mg "repr" = none) (ha : PA X (e :: es) (tDA F Tas))
    (he : starEach (e :: es) X.env = (false, eval e X.env) :: starEach es X.env := by rfl) (hpl : (backTo pos (starEach es X.env)).any (·.1) = false := by rfl) : PE X (.Call (.Name "repr" p) (e :: es) [] pos) (tD F (dCB gReprB Tas)) := by
  have z := cd_reprB (F := F)
  rw [hK] at z
  exact d_callB z (cr_reprB c hgd hu) hg hm (by decide +kernel) ha (by decide) (by decide) he hpl
end
end DL
set_option Elab.async false
set_option linter.all false
set_option maxRecDepth 100000
set_option maxHeartbeats 2000000
/-! int of a text of up to 4300 signs -/
namespace DL
open PySem PySem.Spec L2 PySem.NumText
open PyProof.Rows hiding St
section
variable {M : Model} {A : Around} {E : Value → Shared → Prop} {s : Shared}
theorem max_read {Q : Nat → Shared → Prop} (hn : NoMax s.heap) (q : Q 4300 s) : wpAny M A Builtin.intMaxStrDigits Q E s := by
  obtain ⟨mc, hns, hk⟩ := hn
  unfold Builtin.intMaxStrDigits
  refine wpAny_bind (wpAny_nsGet hns ?_)
  rw [hk]
  exact wpAny_pure q
theorem from_text {v : Value} {text : List Nat} {n : Int} {Q : Value → Shared → Prop} (hn : NoMax s.heap) (long : ¬ (text.takeWhile (· != 0)).length ≤ 640)
    (reads : (int_private% "readNumeral") 4300 10 (text.takeWhile (· != 0)) = (int_private% "Numeral.value") n) (whole : ((text.takeWhile (· != 0)).length == text.length) = true) (h : Q (.int n s.toks) { s with toks := s.toks + 1 }) :
    wpAny M A ((int_private% "intFromText") v text 10) Q E s := by
  obtain ⟨hp, g, d, tk, os⟩ := s
  repeat (any_goals (first
    | assumption
    | (with_reducible refine wpAny_ite_false (decide_eq_false long) ?_)
    | (with_reducible refine wpAny_ite_true (decide_eq_true whole) ?_)
    | (with_reducible refine max_read hn ?_)
    | wp_step))
  all_goals (try rw [reads])
  all_goals (try dsimp only)
  repeat (any_goals (first
    | assumption
    | (with_reducible refine wpAny_ite_false (decide_eq_false long) ?_)
    | (with_reducible refine wpAny_ite_true (decide_eq_true whole) ?_)
    | wp_step))
end
structure Box (p : Prop) : Prop where
  it : p
set_option maxHeartbeats 4000000 in
theorem new_wp {x : PySem.Str} {u : Tok} {n : Int} (h1 : 640 < (numSeenOf x).length) (h2 : x.length ≤ sizeLine) (told : PySem.intText? x = some n) {M : Model} {A : Around} {E : Value → Shared → Prop} {s : Shared} {Q : Value → Shared → Prop}
    (hn : NoMax s.heap) (h : Q (.int n s.toks) { s with toks := s.toks + 1 }) : wpAny M A (Builtin.«int.__new__» ⟨[.type "int", .str x u], []⟩) (fun fin s' => ∃ v, fin = .done (.ret v) ∧ Q v s') E s := by
  have hk : Box (¬ (numSeenOf x).length ≤ 640 ∧ (int_private% "readNumeral") 4300 10 (numSeenOf x) = (int_private% "Numeral.value") n ∧ ((numSeenOf x).length == (numTextOf x).length) = true) := by
    rcases read4300 x h2 with ⟨m, q1, q2, q3⟩ | ⟨q1, _⟩
    · rw [told] at q1
      cases q1
      exact ⟨by omega, q3, q2⟩
    · rw [told] at q1
      cases q1
  clear h1 h2 told
  obtain ⟨hp, g, d, tk, os⟩ := s
  have w1 := F.conv_sub_int
  have w2 := F.madeHere_int
  have w3 := PySem.W.KIN.str_int
  have w4 := PySem.W.KIN.str_idx
  have w5 := PySem.W.KIN.str_trunc
  have w6 : typeOf (.str x u) = pure (.type "str") := rfl
  repeat (any_goals (first
    | assumption
    | ((with_reducible show wpAny _ _ ((int_private% "intFromText") _ _ _) _ _ _); refine from_text hn hk.it.1 hk.it.2.1 hk.it.2.2 ?_)
    | wp_step))
  all_goals first | exact ⟨_, rfl, h⟩ | skip
section
variable {prog : Program} {w : World} {A : Around} {E : Value → Shared → Prop} {s : Shared} {Q : Value → Shared → Prop}
theorem int_text43 {x : PySem.Str} {t : Tok} {n : Int} (h1 : 640 < (numSeenOf x).length) (h2 : x.length ≤ sizeLine) (told : PySem.intText? x = some n) (hn : NoMax s.heap) (h : Q (.int n s.toks) { s with toks := s.toks + 1 }) :
    wpAny (model prog w) A (call (.type "int") [.str x t]) Q E s := by
  refine call_int_1 (S := fun _ R s => NoMax s.heap ∧ R (.ok (.ret (.int n s.toks))) { s with toks := s.toks + 1 }) ?_ ⟨hn, PySem.typeIs_int _ _ _, h⟩
  intro prog w A R s hs
  exact wpAny_mono (new_wp h1 h2 told (Q := fun v s' => R (.ok (.ret v)) s') hs.1 hs.2) (fun fin s' ⟨v, e, q⟩ => by subst e; exact q) fun _ _ z => z
end
end DL
set_option Elab.async false
set_option linter.all false
set_option maxRecDepth 100000
set_option maxHeartbeats 2000000
namespace DL
open PySem PySem.Spec L2 PySem.NumText
open PyProof.Rows hiding St
theorem nine_seen (n : Nat) : (numSeenOf (nine (n + 1))).length = n + 1 := by
  have hall : ((nine (n + 1)).cps.all (· < 128)) = true := by
    rw [← Array.all_toList, nine_cps, List.all_eq_true]
    intro x hx
    rw [(List.mem_replicate.mp hx).2]
    rfl
  have e1 : numTextOf (nine (n + 1)) = List.replicate (n + 1) 57 := by
    unfold numTextOf
    rw [if_pos hall, nine_cps]
  unfold numSeenOf
  rw [e1, List.takeWhile_replicate]
  exact List.length_replicate
section
variable {X : Cx} {F : FP} {Ta Tb : TDE} {Tas : TDA} {e a b c : Expr} {es : List Expr} {pos : Pos} {st : Stmt}
theorem call_int_strB (m : mxB X.K = true) : CallR X (.type "int") (fun xs H Q => ∃ a n, xs = [.str a] ∧ PySem.intText? a = some n ∧ a.length ≤ 4300 ∧ (a.length ≤ 640 ∨ 640 < (numSeenOf a).length) ∧ Q (.int n) H) := by
  intro pins s σ H xs us Q I rs h
  obtain ⟨a, n, rfl, hn, hl, hc, h⟩ := h
  obtain ⟨u, rfl, t, rfl⟩ := vals1 rs
  rcases hc with hc | hc
  · exact PySem.W.KIN.call_text hn hc ⟨.int n, H, I.tok _, ⟨_, rfl⟩, h⟩
  · exact int_text43 hc (Nat.le_trans hl (by rw [sizeLine_eq]; omega)) hn (inv_nomax I m) ⟨.int n, H, I.tok _, ⟨_, rfl⟩, h⟩
def gNinesB : G1 := fun x Q => match x with
  | .int n => (2 ≤ n ∧ n ≤ 4300) ∧ Q (.int (10 ^ n.toNat - 1))
  | _ => False
theorem d_ninesB {k : Nat} {p p1 p2 : Pos} {n : Expr} (m : mxB X.K = true) (hg : Gl X "int") (hm : X.mg "int" = none) (hn : PE X n (tD F Ta)) (he : starEach [.BinOp (.Constant (.str "9") k p1) .Mult n p2] X.env = (false, eval (.BinOp (.Constant (.str "9") k p1) .Mult n p2) X.env) :: starEach [] X.env := by rfl)
    (hpl : (backTo pos (starEach [] X.env)).any (·.1) = false := by rfl) : PE X (.Call (.Name "int" p) [.BinOp (.Constant (.str "9") k p1) .Mult n p2] [] pos) (tD F (dUn gNinesB Ta)) :=
  PE.imp (pe_callTy (call_int_strB m) hg hm (by decide +kernel) (pa_cons (pe_op op_nine pe_str hn) pa_nil he) (by decide) (by decide) he hpl) (by
  rintro σ H Q ⟨N, env, Qd, f, hT, k⟩
  refine ⟨N, env, _, f, hT, fun v H1 d e1 r q => ?_⟩
  cases d <;> first | exact q.elim | skip
  rename_i n
  obtain ⟨⟨h1, h2⟩, q⟩ := q
  refine ⟨n, rfl, r, ⟨h1, by omega⟩, ?_⟩
  obtain ⟨m, hm⟩ : ∃ m, n.toNat = m + 1 := ⟨n.toNat - 1, by omega⟩
  refine ⟨nine n.toNat, _, rfl, ?_, by rw [nine_len]; omega, ?_, k _ _ _ e1 rep_int q⟩
  · rw [hm]
    exact nine_int m (by omega)
  · rw [nine_len, hm, nine_seen]
    omega)
end
end DL
set_option Elab.async false
set_option linter.all false
set_option maxRecDepth 100000
/-! facts of the program's own exception classes -/
namespace DL
open PySem PySem.Spec L2
open PyProof.Rows hiding St
abbrev excTail : List Value := [.type "Exception", .type "BaseException", .type "object"]
def clsB (K : PySem.W.Frag) (n : Str) : Bool := match PySem.W.nsIn K mainGlobals n with
  | some (some (.ref a)) => PySem.W.excIn K a excTail "Exception.__new__" && PySem.W.keepIn K (.ref a) && decide (PySem.W.subIn K (.ref a) (.type "BaseException") = some true) && decide (PySem.W.typeIn K (.ref a) = some (.type "type"))
  | _ => false
def exmB (K : PySem.W.Frag) (n m : Str) (b : Bool) : Bool := decide (PySem.W.exmOne K (clsAt K n) (clsAt K m) = some b)
structure ClsF (K : PySem.W.Frag) (mg : Str → Option Value) (n : Str) (a : Addr) : Prop where
  at_ : clsAt K n = .ref a
  g : mg n = some (.ref a)
  q : PySem.W.excIn K a excTail "Exception.__new__" = true
  kp : PySem.W.keepIn K (.ref a) = true
  sub : PySem.W.subIn K (.ref a) (.type "BaseException") = some true
  ty : PySem.W.typeIn K (.ref a) = some (.type "type")
theorem cls_ok {K : PySem.W.Frag} {h : Heap} {mg : Str → Option Value} (X : K.In h) (G : h.Ns mainGlobals mg) {n : Str} (c : clsB K n = true) : ∃ a, ClsF K mg n a := by
  unfold clsB at c
  split at c
  · rename_i a e
    simp only [Bool.and_eq_true, decide_eq_true_eq] at c
    refine ⟨a, ?_, PySem.W.mg_of X G e, c.1.1.1, c.1.1.2, c.1.2, c.2⟩
    unfold clsAt
    rw [e]
  · cases c
end DL
set_option maxRecDepth 100000
namespace DL
open PySem PySem.Spec L2
/-! ### plain facts for readings -/
theorem ifd {p : Prop} [Decidable p] {A B : Prop} (h1 : p → A) (h2 : ¬ p → B) : if decide p = true then A else B := by
  by_cases h : p
  · rw [decide_eq_true h, if_pos rfl]; exact h1 h
  · rw [decide_eq_false h, if_neg Bool.false_ne_true]; exact h2 h
theorem ifdn {p : Prop} [Decidable p] {A B : Prop} (h1 : ¬ p → A) (h2 : p → B) : if (!decide p) = true then A else B := by
  by_cases h : p
  · rw [decide_eq_true h]; exact h2 h
  · rw [decide_eq_false h]; exact h1 h
theorem sz {n : Nat} (h : n ≤ 1000 := by decide) : n ≤ sizeLine := Nat.le_trans h (by rw [sizeLine_eq]; decide)
/-- an int of at most n bits -/
def Bd (n : Nat) (i : Int) : Prop := i.natAbs < 2 ^ n
theorem Bd.mono {n m : Nat} {i : Int} (h : Bd n i) (l : n ≤ m) : Bd m i := Nat.lt_of_lt_of_le h (Nat.pow_le_pow_right (by decide) l)
theorem Bd.mul {n m : Nat} {i j : Int} (h : Bd n i) (g : Bd m j) : Bd (n + m) (i * j) := wide_lt h g
theorem Bd.neg {n : Nat} {i : Int} (h : Bd n i) : Bd n (-i) := by unfold Bd; rw [Int.natAbs_neg]; exact h
theorem Bd.add {n : Nat} {i j : Int} (h : Bd n i) (g : Bd n j) : Bd (n + 1) (i + j) := by
  unfold Bd at *
  have : (i + j).natAbs ≤ i.natAbs + j.natAbs := Int.natAbs_add_le i j
  rw [Nat.pow_succ]
  omega
theorem Bd.sub {n : Nat} {i j : Int} (h : Bd n i) (g : Bd n j) : Bd (n + 1) (i - j) := by
  rw [Int.sub_eq_add_neg]
  exact h.add g.neg
theorem Bd.cmul {n m : Nat} {i j : Int} (h : Bd n i) (g : Bd m j) (l : n + m ≤ 900000 := by decide) : CMulW i j :=
  wide_mul (h.mono (Nat.le_succ n)) (g.mono (Nat.le_succ m)) (Nat.succ_pos _) (Nat.succ_pos _) (by omega)
theorem Bd.lit {n : Nat} {i : Int} (h : i.natAbs < 2 ^ n := by decide) : Bd n i := h
theorem Bd.of_le {n : Nat} {i j : Int} (h : Bd n j) (l : i.natAbs ≤ j.natAbs) : Bd n i := Nat.lt_of_le_of_lt l h
theorem Bd.cdiv {n : Nat} {i j : Int} (h : Bd n j) (p : 0 < j) (l : n ≤ 8000 := by decide) : CDivW i j :=
  wide_div p (h.mono (Nat.le_succ n)) (Nat.succ_pos _) (by omega)
theorem bd_small {i : Int} {n m : Nat} (h0 : 0 ≤ i) (h : i < n) (l : n ≤ 2 ^ m := by decide) : Bd m i := by
  unfold Bd
  omega
end DL
set_option Elab.async false
set_option linter.all false
set_option maxRecDepth 100000
set_option maxHeartbeats 2000000
/-! own exception classes whose __init__ stores its one parameter: facts, raise X(e) -/
namespace DL
open PySem PySem.Spec L2
open PySem.Builtin PySem.Builtin.ObjectAttr
open PyProof.Rows hiding St
def exc3 : List Value := [.type "Exception", .type "BaseException", .type "object"]
/-- the class n at C, its __init__ at fI; par: the parameter and the field -/
structure ExF (K : PySem.W.Frag) (mg : Str → Option Value) (n par : Str) (C fI : Addr) : Prop where
  at_ : clsAt K n = .ref C
  g : mg n = some (.ref C)
  q : PySem.W.excInitIn K C exc3 "Exception.__new__" = true
  ov : PySem.W.excOver K C exc3 = true
  sa : PySem.W.findIn K (.ref C) "__setattr__" = some (some (.builtin "object.__setattr__"))
  xf : XfC K C
  tk : PySem.W.takerIn K C par = some none
  no : PySem.W.findIn K (.ref C) par = some none
  iC : PySem.W.findIn K (.ref C) "__init__" = some (some (.ref fI))
  tI : PySem.W.typeIn K (.ref fI) = some (.type "function")
  kC : PySem.W.keepIn K (.ref C) = true
  tyC : PySem.W.typeIn K (.ref C) = some (.type "type")
def exfB (K : PySem.W.Frag) (n par : Str) : Bool := match PySem.W.nsIn K mainGlobals n with
  | some (some (.ref C)) => PySem.W.excInitIn K C exc3 "Exception.__new__" && PySem.W.excOver K C exc3 && decide (PySem.W.findIn K (.ref C) "__setattr__" = some (some (.builtin "object.__setattr__"))) && xfB K C && decide (PySem.W.takerIn K C par = some none) &&
    decide (PySem.W.findIn K (.ref C) par = some none) && PySem.W.keepIn K (.ref C) && decide (PySem.W.typeIn K (.ref C) = some (.type "type")) && (match PySem.W.findIn K (.ref C) "__init__" with
    | some (some (.ref f)) => decide (PySem.W.typeIn K (.ref f) = some (.type "function")) && decide (f = He.fAd K (n, some "__init__"))
    | _ => false)
  | _ => false
theorem exf_ok {K : PySem.W.Frag} {h : Heap} {mg : Str → Option Value} (X : K.In h) (G : h.Ns mainGlobals mg) {n par : Str} (c : exfB K n par = true) : ∃ C, ExF K mg n par C (He.fAd K (n, some "__init__")) := by
  unfold exfB at c
  split at c
  · rename_i C e
    simp only [Bool.and_eq_true, decide_eq_true_eq] at c
    obtain ⟨⟨⟨⟨⟨⟨⟨⟨c1, c2⟩, c3⟩, c4⟩, c5⟩, c6⟩, c7⟩, c8⟩, c9⟩ := c
    split at c9
    · rename_i f ef
      simp only [Bool.and_eq_true, decide_eq_true_eq] at c9
      obtain ⟨d1, d2⟩ := c9
      subst d2
      exact ⟨C, by unfold clsAt; rw [e], PySem.W.mg_of X G e, c1, c2, c3, xfB_ok c4, c5, c6, ef, d1, c7, c8⟩
    · cases c9
  · cases c
theorem sz1 (v : Value) : [v].length ≤ sizeLine := by
  rw [sizeLine_eq]
  exact (by decide : 1 ≤ 16777216)
/-- the fresh exception behind its __init__ -/
structure XiEnd (h h' : Heap) (x C dx t1 : Addr) (par : Str) (v : Value) : Prop where
  keep : ∀ b o, b ≠ x → h.get? b = some o → h'.get? b = some o
  obj : h'.get? x = some { cls := .ref C, dict := some dx, data := .fields #[.ref t1, .none, .none, .none, .bool false, .none] }
  dbig : h.objs.size ≤ dx
  dne : dx ≠ x
  ns : h'.Ns1 dx (fun y => if y = par then some v else none)
structure XiMade (h h' : Heap) (e C d : Addr) (par : Str) (v : Value) : Prop where
  keep : ∀ b o, h.get? b = some o → h'.get? b = some o
  new : h.objs.size ≤ e
  obj : ∃ oe vs, h'.get? e = some oe ∧ oe.cls = .ref C ∧ oe.dict = some d ∧ oe.data = .fields vs ∧ vs[1]? = some .none
  dbig : h.objs.size ≤ d
  dne : d ≠ e
  ns : h'.Ns1 d (fun y => if y = par then some v else none)
/-- the text of such an __init__ -/
structure InitTx (par : Str) (body : List Stmt) (scope : Scope) : Prop where
  body_ : ∃ q1 q2 q3 q4, body = [.Assign [.Attribute (.Name "self" q1) par q2] (.Name par q3) q4]
  kind : scope.kind = .function
  co : scope.isCoroutine = false
  gen : scope.isGenerator = false
  l1 : scope.names.lookup ("self" : Str) = some .local
  l2 : scope.names.lookup par = some .local
  ne : par ≠ "self"
  nd : (par == ("__debug__" : Str)) = false
  nc : (par == ("__classdict__" : Str)) = false
section
variable {prog : Program} {w : World} {A : Around} {E : Value → Shared → Prop} {R : Result → Shared → Prop} {s : Shared} {K : PySem.W.Frag} {mg : Str → Option Value} {C fI : Addr} {n par : Str}
theorem ld_loc {M : Model} {s : Shared} {name : Str} {scope : Scope} {L a : Addr} {cd : Value} {m : Str → Option Value} {x : Str} {pos : Pos} {v : Value} {Q : Value → Shared → Prop} {A : Around} {E : Value → Shared → Prop} (hn : s.heap.Ns L m) (hv : m x = some v) (h : Q v s)
    (hk : scope.kind = .function) (hl : scope.names.lookup x = some .local) (hd : (x == ("__debug__" : Str)) = false) : wpAny M A (eval (.Name x pos) (envOfC name scope L a cd)) Q E s :=
  wpAny_Name (wpAny_loadName_local hk hl hn hv h) hd
theorem xi_store {hp : Heap} {g : Array GenState} {d : Drawn} {t : Nat} {os : OsState} {name : Str} {tk : Tok} {v : Value} {x : Addr} {fv : Array Value} (T : ExF K mg n name C fI) (X : K.In hp) (hx : hp.get? x = some { cls := .ref C, data := .fields fv })
    (hq : ∀ h' tk' dx, (∀ b o, b ≠ x → hp.get? b = some o → h'.get? b = some o) → hp.objs.size ≤ dx → dx ≠ x → h'.get? x = some { cls := .ref C, dict := some dx, data := .fields fv } →
      h'.Ns1 dx (fun y => if y = name then some v else none) → R (.ok (.ret .none)) ⟨h', g, d, tk', os⟩) :
    codeAny (model prog w) A (.call (.builtin "object.__setattr__") ⟨[.ref x, .str name tk, v], []⟩) R ⟨hp, g, d, t, os⟩ := by
  have lt : x < hp.objs.size := Heap.lt_size hx
  have hxs : x ≠ hp.objs.size := Nat.ne_of_lt lt
  obtain ⟨cd, hcd, hdd⟩ := PySem.W.any_some T.xf.hdC
  have hc : PySem.W.Looks (model prog w) hp (classData C) cd := PySem.W.looks_clsIn X hcd
  refine PySem.W.osa_openX (od := none) (s := ⟨hp, g, d, t, os⟩) PySem.F.store_Exception X ⟨hx, rfl, rfl, trivial⟩ T.ov T.tk fun b => ?_
  obtain ⟨nm, bs, mro, ns, qn, hd, sn, sb, ab, col, del⟩ := cd
  dsimp only at hdd
  subst hdd
  show wpAny _ _ (storeInOwnDict (.ref x) (.ref C) (.str name tk) name v b) _ _ _
  cases b
  all_goals unfold storeInOwnDict ownDictForStores
  all_goals repeat (first | with_reducible refine PySem.HandSPX.store_in_new ?_ ?_ | with_reducible refine wpAny_loadPart_at hx ?_ | with_reducible refine hc.at ?_ | wp_step)
  all_goals first
    | (refine ⟨_, #[], _, (Heap.get?_update_ne _ _ _ _ hxs.symm).trans (Heap.get?_push_at rfl rfl), rfl, fun e he => ?_, fun _ => rfl⟩
       exact absurd he (by simp))
    | (intro h' tk' hn' hs
       have hx₁ : (hp.push { cls := .type "dict", data := .dict #[] }).get? x = some { cls := .ref C, data := .fields fv } := Heap.get?_push_of_some _ hx
       refine hq h' tk' hp.objs.size (fun b o hb ho => ?_) (Nat.le_refl _) hxs.symm ?_ hn'
       · have e1 := Heap.get?_push_of_some { cls := .type "dict", data := .dict #[] } ho
         exact (hs.2 b (Nat.ne_of_lt (Heap.lt_size ho))).trans ((Heap.get?_update_ne _ _ _ _ hb).trans e1)
       · exact (hs.2 x hxs).trans (Heap.get?_update_self _ hx₁ rfl))
/-- __init__ on a fresh exception -/
theorem xi_init {qual : Str} {params : Arguments} {body : List Stmt} {scope : Scope} {fd : FuncData} (T : ExF K mg n par C fI) (F : FunD K "__init__" qual params body scope [] [] fI fd) (B : Binds K fd ["self", par] []) (I : InitTx par body scope) {x t0 : Addr} {v : Value}
    (X : K.In s.heap) (hlim : s.heap.NoLimit) (hx : s.heap.get? x = some (PySem.HandSPX.excO C t0)) (hroom : A.depth < recursionLimit)
    (hq : ∀ h' tk dx, XiEnd s.heap h' x C dx t0 par v → R (.ok (.ret .none)) { s with heap := h', toks := tk }) : codeAny (model prog w) A (.call (.ref fI) ⟨[.ref x, v], []⟩) R s := by
  have bnd := B s [.ref x, v] X rfl
  obtain ⟨oc, od, dV, kV, doc, pm, an, cdv, ct, osl, rfl, lk, hcd, _, _⟩ := F.ex
  obtain ⟨q1, q2, q3, q4, rfl⟩ := I.body_
  have kd : ∀ y : Str, (envOfC qual scope s.heap.objs.size fI cdv).kindOf y = scope.names.lookup y := fun _ => rfl
  refine Att.call_fn (binds := [("self", .ref x), (par, v)]) X hlim lk hcd hroom bnd (by simp [I.l1, I.l2]) (fun s₁ IC => ?_) I.co I.gen I.kind
  obtain ⟨h₁, tk₁, rfl⟩ := IC.toInCall.same
  have k : ∀ b o, s.heap.get? b = some o → h₁.get? b = some o := IC.toInCall.keep
  have hn := IC.toInCall.ns
  have v1 : bindL (envOfC qual scope s.heap.objs.size fI cdv).kindOf [(("self" : Str), Value.ref x), (par, v)] (fun _ => none) "self" = some (.ref x) := by
    simp [bindL, kd, I.l1, I.l2, I.ne.symm, I.ne]
  have v2 : bindL (envOfC qual scope s.heap.objs.size fI cdv).kindOf [(("self" : Str), Value.ref x), (par, v)] (fun _ => none) par = some v := by
    simp [bindL, kd, I.l1, I.l2, I.ne.symm, I.ne]
  have X₁ := X.keeps k
  have hx₁ := k _ _ hx
  have z : s.heap.objs.size < h₁.objs.size := hn.lt
  refine wpAny_execs_cons (plainObj_wpAny_Assign_Attribute ?_ (by rfl))
  refine ld_loc hn v2 (ld_loc hn v1 ?_ I.kind I.l1 (by decide)) I.kind I.l2 I.nd
  refine PySem.W.set_plain X₁ (od := none) ⟨hx₁, rfl, rfl, trivial⟩ T.sa ?_
  refine xi_store T X₁ hx₁ fun h₃ tk₃ dx k₃ dn dne hx₃ hn₃ => ?_
  exact wpAny_execs_nil (hq h₃ tk₃ dx ⟨fun b o hb e => k₃ b o hb (k b o e), hx₃, Nat.le_of_lt (Nat.lt_of_lt_of_le z dn), dne, hn₃⟩)
theorem xi_made {qual : Str} {params : Arguments} {body : List Stmt} {scope : Scope} {fd : FuncData} (T : ExF K mg n par C fI) (F : FunD K "__init__" qual params body scope [] [] fI fd) (B : Binds K fd ["self", par] []) (I : InitTx par body scope) {v : Value}
    (X : K.In s.heap) (hlim : s.heap.NoLimit) (hroom : A.depth + 1 < recursionLimit) (hq : ∀ h' tk e d, XiMade s.heap h' e C d par v → R (.ok (.ret (.ref e))) { s with heap := h', toks := tk }) :
    codeAny (model prog w) A (.call (.ref C) ⟨[v], []⟩) R s := by
  obtain ⟨nm, N, q, bs, bm, hdct, sn, sub, ab, col, dd, k0, k1, k2, k3, k5, hC, hT⟩ := PySem.W.excInit_of X T.q
  obtain ⟨hp, g, dr, tk, os⟩ := s
  have k : ∀ b o, hp.get? b = some o → ((hp.push (PySem.W.kdv_tup [v])).push (PySem.HandSPX.excO C hp.objs.size)).get? b = some o := fun b o e => Heap.get?_push_of_some _ (Heap.get?_push_of_some _ e)
  have at1 : ((hp.push (PySem.W.kdv_tup [v])).push (PySem.HandSPX.excO C hp.objs.size)).get? (hp.objs.size + 1) = some (PySem.HandSPX.excO C hp.objs.size) := by heap_get
  refine PySem.HandSPX.call_own PySem.F.excBase_Exception hT hC (PySem.W.looks_findIn X T.iC) (fun self => PySem.W.bind_fn X self T.tI) (sz1 v) ?_
  refine xi_init (s := ⟨(hp.push (PySem.W.kdv_tup [v])).push (PySem.HandSPX.excO C hp.objs.size), g, dr, tk, os⟩) T F B I (X.keeps k) (hlim.keeps k) at1 ?_ fun h' tk' dx ⟨k', hx, dn, dne, hns⟩ => ?_
  · show A.depth + 1 < recursionLimit
    exact hroom
  · have old : ∀ b o, hp.get? b = some o → h'.get? b = some o := fun b o e => k' b o (Nat.ne_of_lt (Nat.lt_succ_of_lt (Heap.lt_size e))) (k b o e)
    have z : hp.objs.size + 1 + 1 ≤ dx := by
      have y := dn
      rw [Heap.size_push, Heap.size_push] at y
      exact y
    exact ⟨rfl, hq h' tk' (hp.objs.size + 1) dx ⟨old, Nat.le_succ _, ⟨_, _, hx, rfl, rfl, rfl, rfl⟩, Nat.le_trans (Nat.le_trans (Nat.le_succ _) (Nat.le_succ _)) z, dne, hns⟩⟩
end
theorem relO_par {par : Str} {v : V} {v' : Value} (r : RelV v v') (f : Str) : RelO (List.lookup f [(par, v)]) (if f = par then some v' else none) := by
  by_cases e : f = par
  · subst e
    rw [if_pos rfl, List.lookup_cons, beq_self_eq_true]
    exact r
  · have b : (f == par) = false := by simpa using e
    rw [if_neg e, List.lookup_cons, b]
    trivial
section
variable {X : Cx} {C fI : Addr} {n par : Str} {F : FP} {W : WX} {Ta : TDE}
/-- X(e) -/
def tMk1 (C : Addr) (par : Str) (ta : TA) : L2.St → Hp → XK → Prop := fun σ H Q => ta σ H fun vs H1 => ∃ v, vs = [v] ∧ ∀ d, H1 d = none → Q (.ref C) (some d) (upd H1 d (.xd [(par, v)]))
theorem pmk_x1 {a : Expr} {ta : TA} {p pos : Pos} {k : Nat} {qual : Str} {params : Arguments} {body : List Stmt} {scope : Scope} {fd : FuncData} (T : ExF X.K X.mg n par C fI) (Fd : FunD X.K "__init__" qual params body scope [] [] fI fd) (B : Binds X.K fd ["self", par] []) (I0 : InitTx par body scope)
    (hr : Room k X.A) (ha : PA X [a] ta) (hg : Gl X n) (hdb : (n == ("__debug__" : Str)) = false := by decide) (he : starEach (a :: []) X.env = (false, eval a X.env) :: starEach [] X.env := by rfl) (hpl : (backTo pos (starEach [] X.env)).any (·.1) = false := by rfl) :
    PMk X (.Call (.Name n p) [a] [] pos) (tMk1 C par ta) := by
  intro pins s σ H Q I h
  refine wpAny_Call_Name_kw (ld_glob I hg T.g (PySem.W.callWith_K (h₀ := X.base) I.ok.mod.kin T.kC (thn (ha.run pos pins s σ H _ I h) fun us s1 hh => ?_) he hpl) hdb)
  obtain ⟨vs, H1, I1, r1, v, rfl, q1⟩ := hh
  refine ⟨I1.kIn, ?_⟩
  obtain ⟨v', rfl, rv⟩ := vals1 r1
  show wpAny _ _ (call (.ref C) [v']) _ _ _
  have hlim := I1.nolimit
  obtain ⟨hp, g, dr, tk, os⟩ := s1
  refine wpAny_call (xi_made T Fd B I0 I1.kIn hlim (by have := hr.dp; omega) fun h' tk' e d M => ?_)
  show MkP X pins σ Q (.ref e) ⟨h', g, dr, tk', os⟩
  obtain ⟨oe, fv, hoe, hc, hd, hdat, h1⟩ := M.obj
  have hns := M.ns
  obtain ⟨G', g1, g2⟩ := restrict h' fun b => decide (b ≠ e)
  have gk : ∀ b, b ≠ e → G'.get? b = h'.get? b := fun b hb => g1 b (decide_eq_true hb)
  have ge : G'.get? e = none := g2 e (by simp)
  have old : ∀ b o, hp.get? b = some o → G'.get? b = some o := fun b o q => (gk b (Nat.ne_of_lt (Nat.lt_of_lt_of_le (Heap.lt_size q) M.new))).trans (M.keep b o q)
  have ob : ObjOk X.prog X.w (upd H1 d (.xd [(par, v)])) G' d (.xd [(par, v)]) := ⟨_, hns.at (fun o q => (gk d M.dne).trans q), fun f => relO_par rv f⟩
  have J : Inv X pins σ (upd H1 d (.xd [(par, v)])) ⟨G', g, dr, tk', os⟩ := I1.laid (t' := tk') old M.dbig ob
  refine ⟨e, oe, fv, ⟨G', g, dr, tk', os⟩, _, .ref C, some d, rfl, J, fun b o q => ?_, ge, hoe, ⟨hc, hd⟩, hdat, h1, ?_, rfl, I1.bare, raises_own T.xf.exC T.tyC, q1 d (I1.hok.fresh M.dbig)⟩
  · by_cases hb : b = e
    · have q' : G'.get? b = some o := q
      rw [hb, ge] at q'
      cases q'
    · exact (gk b hb).symm.trans q
  · rw [upd_ne (Ne.symm M.dne)]
    exact I1.hok.fresh M.new
def dRaise1 (n par : Str) (Ta : TDE) : TDS := fun ξ _ env => Ta ξ env fun d => ξ ⟨n, [(par, d)]⟩ env
theorem ds_raise1 {a : Expr} {p pos pos2 : Pos} {k : Nat} {qual : Str} {params : Arguments} {body : List Stmt} {scope : Scope} {fd : FuncData} (hc : X.calm = true) (tk : Takes X W) (wo : WOk F W) (hK : F.K = X.K) (T : ExF X.K X.mg n par C fI) (Fd : FunD X.K "__init__" qual params body scope [] [] fI fd)
    (B : Binds X.K fd ["self", par] []) (I0 : InitTx par body scope) (hr : Room k X.A) (ha : PE X a (tD F Ta)) (hg : Gl X n) (hdb : (n == ("__debug__" : Str)) = false := by decide) (he : starEach (a :: []) X.env = (false, eval a X.env) :: starEach [] X.env := by rfl) (hpl : (backTo pos (starEach [] X.env)).any (·.1) = false := by rfl) :
    PS X (.Raise (some (.Call (.Name n p) [a] [] pos)) none pos2) (sD F (dRaise1 n par Ta)) :=
  PS.imp (ps_raise hc tk (pmk_x1 T Fd B I0 hr (pa_cons ha pa_nil he) hg hdb he hpl)) (by
  rintro De σ H ⟨N, env, Dd, f, hT, ok⟩
  refine ⟨N, env, _, f, hT, fun v H1 d e1 r q => ⟨v, rfl, fun dx hdx => ?_⟩⟩
  have f1 := f.ext' e1
  have f2 := f1.ext' (f1.n.lay (o := .xd [(par, v)]) hdx)
  refine wo N σ _ env ⟨n, [(par, d)]⟩ _ (some dx) f2 ⟨by rw [hK]; exact T.at_.symm, .inr ⟨dx, [v], rfl, f1.n.fresh hdx, upd_same, v, [], rfl, ?_, rfl⟩⟩ q
  exact r.ext (f1.n.lay hdx) f1.n.z)
end
end DL
set_option Elab.async false
set_option linter.all false
set_option maxRecDepth 100000
set_option maxHeartbeats 2000000
/-! try with any number of clauses, with and without a name -/
namespace DL
open PySem PySem.Spec L2
open PyProof.Rows hiding St
abbrev HTs := Addr → Value → Option Addr → TS
def atE : Option Nat → Ends → Ends
  | none, D => D
  | some i, D => { nx := fun σ H => D.nx (σ.set i none) H, rt := D.rt, bk := fun σ H => D.bk (σ.set i none) H, ct := fun σ H => D.ct (σ.set i none) H }
def putE : Option Nat → Addr → L2.St → L2.St
  | none, _, σ => σ
  | some i, a, σ => σ.set i (some (.ref a))
/-- the clauses' wish, one behind the other -/
def wNs (K : PySem.W.Frag) (Wout : WX) (D : Ends) : List (Value × Option Nat × HTs) → WX
  | [] => Wout
  | (c, o, ts) :: r => fun cls d σ H => ∃ b, PySem.W.exmOne K cls c = some b ∧ (b = true → ∀ a, H a = none → ts a cls d (atE o D) (putE o a σ) H) ∧ (b = false → wNs K Wout D r cls d σ H)
abbrev SuiteOk (X : Cx) (sts : List Stmt) (ts : HTs) : Prop := ∀ (a : Addr) (oe : Obj) (cls : Value) (d : Option Addr) (pn : List (Addr × Obj)), Zc cls d oe → (∃ vs, oe.data = .fields vs) → PSs (X.suite a ((a, oe) :: pn)) sts (ts a cls d)
inductive HdsN (X : Cx) : List ExceptHandler → List (Value × Option Nat × HTs) → Prop
  | nil : HdsN X [] []
  | one {x : Str} {c : Value} {ts : HTs} {b₀ : Stmt} {suite : List Stmt} {np pos' : Pos} {hds : List ExceptHandler} {l : List (Value × Option Nat × HTs)} (hc : Names X x c) (hsu : SuiteOk X (b₀ :: suite) ts) (r : HdsN X hds l) :
      HdsN X (.ExceptHandler (some (.Name x np)) none (b₀ :: suite) pos' :: hds) ((c, none, ts) :: l)
  | named {x n : Str} {i : Nat} {c : Value} {ts : HTs} {b₀ : Stmt} {suite : List Stmt} {np pos' : Pos} {hds : List ExceptHandler} {l : List (Value × Option Nat × HTs)} (hi : X.N[i]? = some n) (hln : X.env.kindOf n = some .local) (hc : Names X x c) (hsu : SuiteOk X (b₀ :: suite) ts) (r : HdsN X hds l) :
      HdsN X (.ExceptHandler (some (.Name x np)) (some n) (b₀ :: suite) pos' :: hds) ((c, some i, ts) :: l)
section
variable {X : Cx} {body : List Stmt} {h₀ : ExceptHandler} {hds : List ExceptHandler} {l : List (Value × Option Nat × HTs)} {pos : Pos} {tb : WX → TS} {Wout : WX}
theorem not_frame {B h : Heap} {fr : List Env} {a : Addr} {o : Obj} {vs : Array Value} (ff : h.FunFrames B fr) (e : h.get? a = some o) (dd : o.data = .fields vs) : a ∉ frs fr := fun hm => by
  obtain ⟨_, o', e', hnf⟩ := ff.mem hm
  rw [e] at e'
  cases e'
  exact hnf _ dd
theorem ps_try_nm (hs : X.stack = X.env :: X.outer) (hf : X.env.frame = some X.env.locals) (hN : X.N.Nodup) (tk : Takes X Wout)
    (hb : ∀ (W : WX) (pn : List (Addr × Obj)) (xe : Value → Shared → Prop), Takes (X.tr pn xe) W → PassesOwn (model X.prog X.w) X.A X.env xe → PSs (X.tr pn xe) body (tb W))
    (hh : HdsN X (h₀ :: hds) l) : PS X (.Try body (h₀ :: hds) [] [] pos) (fun D σ H => tb (wNs X.K Wout D l) D σ H) := by
  refine ⟨fun pins s σ H D I h => ?_⟩
  have ok := I.ok
  have hfr : X.A.frames = some (X.env :: X.outer) := by rw [ok.frames, hs]
  have body_ := hb (wNs X.K Wout D l) (X.pn ++ pins) (fun e s₁ => wpAny (model X.prog X.w) X.A (noteFrame e X.env) (fun _ s₂ => wpAny (model X.prog X.w) X.A (setFlight e none) (fun _ s₃ =>
    wpAny (model X.prog X.w) X.A (handleBy e X.env (h₀ :: hds)) (SP X pins D) X.xe s₃) X.xe s₂) X.xe s₁)
  refine wpAny_Try_except (wpAny_mono ((body_ (fun u s' xx => ?_) PassesOwn.looking).run [] s σ H D (I.toTry _) h) (fun f s1 hsp => ?_) (fun e s1 he => he))
  · obtain ⟨a, B, sI, pins', σ', H', cls, d, rfl, J', nb, up, sky, na, os, ag, w⟩ := xx
    have J : Inv X pins σ' H' sI := J'.ofTry ok
    rw [show (X.tr (X.pn ++ pins) _).stack = X.env :: X.outer from hs] at sky
    show wpAny (model X.prog X.w) X.A (noteFrame (.ref a) X.env) _ _ _
    refine Sky.land Zc.steady hfr hf sky fun h3 fl3 up3 => ?_
    have J3 : Inv X pins σ' H' { s' with heap := h3 } := J.landed nb fl3.1 (up.trans up3) os ag
    have zc : ∀ o, Zc cls d o → o.cls = cls := fun o z => z.1
    obtain ⟨oe3, vs3, he3, hz3, hd3⟩ := fl3.there
    have nfr := not_frame fl3.2.2.1 he3 hd3
    have nL : a ≠ X.env.locals := fun z => nfr (List.mem_filterMap.mpr ⟨X.env, List.mem_cons_self, by rw [hf, z]⟩)
    have nF : a ∉ X.fs := fun hm => let ⟨e, he, q⟩ := List.mem_filterMap.mp hm; nfr (List.mem_filterMap.mpr ⟨e, List.mem_cons_of_mem _ he, q⟩)
    have S3 := J3.suite he3 hd3 na nL nF
    have test : ∀ {x : Str} {c : Value} {np : Pos}, Names X x c → ∀ {Q : Value → Shared → Prop} {E : Value → Shared → Prop}, Q c { s' with heap := h3 } → wpAny (model X.prog X.w) (X.A.mark (some (.ref a))) (eval (.Name x np) X.env) Q E { s' with heap := h3 } := fun {x c np} hc {Q E} q => by
      obtain ⟨hg, hdbg, hm | ⟨hm, hv, hnn⟩⟩ := hc
      · exact ld_glob S3 hg hm q hdbg
      · exact ld_blt S3 hg hm hv q hnn hdbg
    have suite_ : ∀ {h4 : Heap}, HandSPX.FlyingZ B (X.env :: X.outer) a (Zc cls d) h4 → h3.UpToSlots h4 → ∃ oe4, Zc cls d oe4 ∧ (∃ vs, oe4.data = .fields vs) ∧ Inv (X.suite a ((a, oe4) :: (X.pn ++ pins))) [] σ' H' { s' with heap := h4 } := fun {h4} fl4 up4 => by
      have J4 : Inv X pins σ' H' { s' with heap := h4 } := J.landed nb fl4.1 ((up.trans up3).trans up4) os ag
      obtain ⟨oe4, vs4, he4, hz4, hd4⟩ := fl4.there
      exact ⟨oe4, hz4, ⟨_, hd4⟩, J4.suite he4 hd4 na nL nF⟩
    have go : ∀ {hds' : List ExceptHandler} {l' : List (Value × Option Nat × HTs)}, HdsN X hds' l' → wNs X.K Wout D l' cls d σ' H' →
        wpAny (model X.prog X.w) X.A (handleBy (.ref a) X.env hds') (SP X pins D) X.xe { s' with heap := h3 } := by
      intro hds' l' hk
      induction hk with
      | nil => exact fun w => PX.no_clauseZ (Z := Zc cls d) (B := B) (outer := X.outer) hf fl3 fun h4 hh4 up4 => tk _ _ ⟨a, B, sI, pins, σ', H', cls, d, rfl, J, nb, (up.trans up3).trans up4, .inr (.inr (by rw [hs]; exact hh4)), na, os, ag, w⟩
      | @one x c ts b₀ suite np pos' hds2 l2 hc hsu r ih =>
        rintro ⟨b, hb1, hyes, hno⟩
        cases b with
        | false => exact PX.clause_passZ (Z := Zc cls d) (B := B) (outer := X.outer) J3.kIn zc fl3 hb1 (test hc) (ih (hno rfl))
        | true =>
          refine PX.clause_onlyZ (Z := Zc cls d) (B := B) (outer := X.outer) J3.kIn zc fl3 hb1 (test hc) fun h4 fl4 up4 => ?_
          obtain ⟨oe4, hz4, hd4, S4⟩ := suite_ fl4 up4
          refine wpAny_mono ((hsu a oe4 cls d (X.pn ++ pins) hz4 hd4).run [] _ _ H' _ S4 (hyes rfl a na)) (fun f s6 hsp => ?_) (fun _ _ z => z.elim)
          cases f with
          | next => exact let ⟨σ6, H6, S6, q6⟩ := hsp; ⟨_, _, S6.unsuite ok, q6⟩
          | brk => exact let ⟨σ6, H6, S6, q6⟩ := hsp; ⟨_, _, S6.unsuite ok, q6⟩
          | cont => exact let ⟨σ6, H6, S6, q6⟩ := hsp; ⟨_, _, S6.unsuite ok, q6⟩
          | ret u => exact let ⟨v6, σ6, H6, S6, r6, q6⟩ := hsp; ⟨_, _, _, S6.unsuite ok, r6, q6⟩
      | @named x n i c ts b₀ suite np pos' hds2 l2 hi hln hc hsu r ih =>
        rintro ⟨b, hb1, hyes, hno⟩
        cases b with
        | false => exact PX.clause_passZ (Z := Zc cls d) (B := B) (outer := X.outer) J3.kIn zc fl3 hb1 (test hc) (ih (hno rfl))
        | true =>
          refine PX.clause_asZ (Z := Zc cls d) (B := B) (outer := X.outer) J3.kIn zc fl3 hb1 (test hc) fun h4 fl4 up4 => ?_
          obtain ⟨oe4, hz4, hd4, S4⟩ := suite_ fl4 up4
          refine store_ok (X := X.suite a ((a, oe4) :: (X.pn ++ pins))) (v := .ref a) S4 hN hi (.inl hln) rfl (fun s5 S5 => ?_) (.inr hln)
          refine wpAny_mono ((hsu a oe4 cls d (X.pn ++ pins) hz4 hd4).run [] s5 _ H' _ S5 (hyes rfl a na)) (fun f s6 hsp => ?_) (fun _ _ z => z.elim)
          cases f with
          | next => exact let ⟨σ6, H6, S6, q6⟩ := hsp; gone_ok (S6.unsuite ok) hN hi hln fun s7 J7 => ⟨_, _, J7, q6⟩
          | brk => exact let ⟨σ6, H6, S6, q6⟩ := hsp; gone_ok (S6.unsuite ok) hN hi hln fun s7 J7 => ⟨_, _, J7, q6⟩
          | cont => exact let ⟨σ6, H6, S6, q6⟩ := hsp; gone_ok (S6.unsuite ok) hN hi hln fun s7 J7 => ⟨_, _, J7, q6⟩
          | ret u => exact let ⟨v6, σ6, H6, S6, r6, q6⟩ := hsp; gone_ok (S6.unsuite ok) hN hi hln fun s7 J7 => ⟨_, _, _, J7, r6, q6⟩
    exact go hh w
  · cases f with
    | next => exact let ⟨σ', H', K', q⟩ := hsp; wpAny_execs_nil ⟨σ', H', K'.ofTry ok, q⟩
    | brk => exact let ⟨σ', H', K', q⟩ := hsp; ⟨σ', H', K'.ofTry ok, q⟩
    | cont => exact let ⟨σ', H', K', q⟩ := hsp; ⟨σ', H', K'.ofTry ok, q⟩
    | ret u => exact let ⟨v, σ', H', K', r, q⟩ := hsp; ⟨v, σ', H', K'.ofTry ok, r, q⟩
end
end DL
set_option Elab.async false
set_option linter.all false
set_option maxRecDepth 100000
set_option maxHeartbeats 2000000
/-! try over data: clauses with names; e.f, isinstance(e, C) in a clause -/
namespace DL
open PySem PySem.Spec L2
open PyProof.Rows hiding St
structure Cl where
  m : Str → Option Bool
  i : Option Nat
  h : Addr → DX → TDS
def atD : Option Nat → DEnds → DEnds
  | none, D => D
  | some i, D => { nx := fun env => D.nx (env.set i .un), rt := D.rt, bk := fun env => D.bk (env.set i .un), ct := fun env => D.ct (env.set i .un) }
def putD : Option Nat → Addr → SE → SE
  | none, _, env => env
  | some i, a, env => env.set i (.raw (.ref a))
def wDs (ξ : XW) (De : DEnds) : List Cl → DX → SE → Prop
  | [], x, env => ξ x env
  | c :: r, x, env => match c.m x.cls with
    | some true => ∀ a, c.h a x (fun _ _ => False) (atD c.i De) (putD c.i a env)
    | some false => wDs ξ De r x env
    | none => False
def dTryN (cs : List Cl) (body : TDS) : TDS := fun ξ De env => body (fun x env' => wDs ξ De cs x env') De env
theorem FOk.raw {F : FP} {N : Addr → Prop} {σ : L2.St} {H : Hp} {env : SE} (f : FOk F N σ H env) (i : Nat) (v : V) : FOk F N (σ.set i (some v)) H (env.set i (.raw v)) where
  n := f.n
  len := by rw [List.length_set, List.length_set]; exact f.len
  slot := fun j s h => by
    by_cases hj : i = j
    · subst hj
      have hl : i < env.length := by
        have := (List.getElem?_eq_some_iff.mp h).1
        rwa [List.length_set] at this
      rw [List.getElem?_set_self hl] at h
      cases h
      show (σ.set i (some v))[i]? = some (some v)
      rw [List.getElem?_set_self (by rw [f.len]; exact hl)]
    · rw [List.getElem?_set_ne hj] at h
      rw [List.getElem?_set_ne hj]
      exact f.slot j s h
  apart := fun j k p xs ys hjk h1 h2 h3 h4 => by
    have o : ∀ {j : Nat} {xs : List D}, (env.set i (.raw v))[j]? = some (.own xs) → i ≠ j ∧ env[j]? = some (.own xs) := fun {j xs} h => by
      by_cases hj : i = j
      · subst hj
        have hl : i < env.length := by
          have := (List.getElem?_eq_some_iff.mp h).1
          rwa [List.length_set] at this
        rw [List.getElem?_set_self hl] at h
        cases h
      · rw [List.getElem?_set_ne hj] at h
        exact ⟨hj, h⟩
    obtain ⟨n1, h1⟩ := o h1
    obtain ⟨n2, h2⟩ := o h2
    rw [List.getElem?_set_ne n1] at h3
    rw [List.getElem?_set_ne n2] at h4
    exact f.apart j k p xs ys hjk h1 h2 h3 h4
theorem FOk.put {F : FP} {N : Addr → Prop} {σ : L2.St} {H : Hp} {env : SE} (f : FOk F N σ H env) (o : Option Nat) (a : Addr) : FOk F N (putE o a σ) H (putD o a env) := by
  cases o with
  | none => exact f
  | some i => exact f.raw i _
theorem EndsOk.at {F : FP} {N : Addr → Prop} {H : Hp} {Dd : DEnds} {De : Ends} (ok : EndsOk F N H Dd De) (o : Option Nat) : EndsOk F N H (atD o Dd) (atE o De) := by
  cases o with
  | none => exact ok
  | some i => exact ⟨fun N' σ H' env f ev q => ok.nx N' _ H' _ (f.un i) ev q, ok.rt, fun N' σ H' env f ev q => ok.bk N' _ H' _ (f.un i) ev q, fun N' σ H' env f ev q => ok.ct N' _ H' _ (f.un i) ev q⟩
theorem EndsOk.rebase {F : FP} {N : Addr → Prop} {H : Hp} {Dd : DEnds} {De : Ends} {ex : XW} (ok : EndsOk F N H Dd De) (g : Evo F.N1 F.H1 N H) : EndsOk { F with ex := ex, N1 := N, H1 := H } N H Dd De :=
  ⟨fun N' σ H' env f ev q => ok.nx N' σ H' env (f.back g) ev q, ok.rt, fun N' σ H' env f ev q => ok.bk N' σ H' env (f.back g) ev q, fun N' σ H' env f ev q => ok.ct N' σ H' env (f.back g) ev q⟩
/-- what a suite may lean on -/
structure SuiteF (F : FP) (c : Cl) (cls : Value) (d : Option Addr) (y : DX) (F' : FP) : Prop where
  k : F'.K = F.K
  z : F'.Z = F.Z
  ex : F'.ex = fun _ _ => False
  xr : XRep F'.K F'.Z F'.N1 F'.H1 y cls d
  m : c.m y.cls = some true
abbrev tsD (F : FP) (c : Cl) : HTs := fun a cls d De σ H => ∃ (y : DX) (F' : FP), SuiteF F c cls d y F' ∧ sD F' (c.h a y) De σ H
abbrev SuiteD (X : Cx) (F : FP) (sts : List Stmt) (c : Cl) : Prop := ∀ (a : Addr) (oe : Obj) (cls : Value) (d : Option Addr) (pn : List (Addr × Obj)) (y : DX) (F' : FP), Zc cls d oe → (∃ vs, oe.data = .fields vs) → SuiteF F c cls d y F' → PSs (X.suite a ((a, oe) :: pn)) sts (sD F' (c.h a y))
theorem suite_d {X : Cx} {F : FP} {sts : List Stmt} {c : Cl} (h : SuiteD X F sts c) : SuiteOk X sts (tsD F c) := fun a oe cls d pn hz hv =>
  PSs.exP fun y => PSs.exP fun F' => PSs.andP fun s => h a oe cls d pn y F' hz hv s
/-- the clauses below and over data -/
inductive HdD (X : Cx) (F : FP) : List ExceptHandler → List (Value × Option Nat × HTs) → List Cl → Prop
  | nil : HdD X F [] [] []
  | one {x : Str} {c : Value} {cl : Cl} {b₀ : Stmt} {suite : List Stmt} {np pos' : Pos} {hds : List ExceptHandler} {l : List (Value × Option Nat × HTs)} {cs : List Cl} (hc : Names X x c) (hi : cl.i = none) (hm : ∀ n b, cl.m n = some b → PySem.W.exmOne X.K (clsAt X.K n) c = some b)
      (hsu : SuiteD X F (b₀ :: suite) cl) (r : HdD X F hds l cs) : HdD X F (.ExceptHandler (some (.Name x np)) none (b₀ :: suite) pos' :: hds) ((c, none, tsD F cl) :: l) (cl :: cs)
  | named {x n : Str} {i : Nat} {c : Value} {cl : Cl} {b₀ : Stmt} {suite : List Stmt} {np pos' : Pos} {hds : List ExceptHandler} {l : List (Value × Option Nat × HTs)} {cs : List Cl} (hn : X.N[i]? = some n) (hln : X.env.kindOf n = some .local) (hc : Names X x c) (hi : cl.i = some i)
      (hm : ∀ n b, cl.m n = some b → PySem.W.exmOne X.K (clsAt X.K n) c = some b) (hsu : SuiteD X F (b₀ :: suite) cl) (r : HdD X F hds l cs) : HdD X F (.ExceptHandler (some (.Name x np)) (some n) (b₀ :: suite) pos' :: hds) ((c, some i, tsD F cl) :: l) (cl :: cs)
theorem HdD.nm {X : Cx} {F : FP} {hds : List ExceptHandler} {l : List (Value × Option Nat × HTs)} {cs : List Cl} (h : HdD X F hds l cs) : HdsN X hds l := by
  induction h with
  | nil => exact .nil
  | one hc hi hm hsu r ih => exact .one hc (suite_d hsu) ih
  | named hn hln hc hi hm hsu r ih => exact .named hn hln hc (suite_d hsu) ih
theorem HdD.wish {X : Cx} {F : FP} {W : WX} {hds : List ExceptHandler} {l : List (Value × Option Nat × HTs)} {cs : List Cl} (h : HdD X F hds l cs) (hK : F.K = X.K) (wo : WOk F W) {N : Addr → Prop} {σ : L2.St} {H : Hp} {env : SE} {y : DX} {cls : Value} {d : Option Addr} {Dd : DEnds} {De : Ends}
    (f : FOk F N σ H env) (xr : XRep F.K F.Z N H y cls d) (ok : EndsOk F N H Dd De) (hw : wDs F.ex Dd cs y env) : wNs X.K W De l cls d σ H := by
  have step : ∀ (cl : Cl), cl.m y.cls = some true → (∀ a, cl.h a y (fun _ _ => False) (atD cl.i Dd) (putD cl.i a env)) → ∀ a, tsD F cl a cls d (atE cl.i De) (putE cl.i a σ) H := fun cl m hh a =>
    ⟨y, { F with ex := fun _ _ => False, N1 := N, H1 := H }, ⟨rfl, rfl, rfl, xr, m⟩, N, putD cl.i a env, atD cl.i Dd, (f.rebase _).put cl.i a, hh a, (ok.rebase f.n.gr).at cl.i⟩
  induction h with
  | nil => exact wo N σ H env y cls d f xr hw
  | @one x c cl b₀ suite np pos' hds l cs hc hi hm hsu r ih =>
    unfold wDs at hw
    split at hw
    · rename_i m
      refine ⟨true, by rw [xr.1, hK]; exact hm _ _ m, fun _ a _ => ?_, fun z => Bool.noConfusion z⟩
      have := step cl m hw a
      rw [hi] at this
      exact this
    · rename_i m
      exact ⟨false, (by rw [xr.1, hK]; exact hm _ _ m), (fun z => Bool.noConfusion z), fun _ => ih hw⟩
    · exact hw.elim
  | @named x n i c cl b₀ suite np pos' hds l cs hn hln hc hi hm hsu r ih =>
    unfold wDs at hw
    split at hw
    · rename_i m
      refine ⟨true, by rw [xr.1, hK]; exact hm _ _ m, fun _ a _ => ?_, fun z => Bool.noConfusion z⟩
      have := step cl m hw a
      rw [hi] at this
      exact this
    · rename_i m
      exact ⟨false, (by rw [xr.1, hK]; exact hm _ _ m), (fun z => Bool.noConfusion z), fun _ => ih hw⟩
    · exact hw.elim
/-- a frame within a frame: of the same things -/
structure Sub (F F' : FP) : Prop where
  k : F'.K = F.K
  z : F'.Z = F.Z
  b : F'.B = F.B
  h : F'.H0 = F.H0
  g : Evo F.N1 F.H1 F'.N1 F'.H1
section
variable {X : Cx} {F : FP} {W : WX}
theorem ds_tryN {body : List Stmt} {h₀ : ExceptHandler} {hds : List ExceptHandler} {l : List (Value × Option Nat × HTs)} {cs : List Cl} {pos : Pos} {Tb : TDS} (hK : F.K = X.K) (hs : X.stack = X.env :: X.outer) (hf : X.env.frame = some X.env.locals) (hN : X.N.Nodup) (tk : Takes X W) (wo : WOk F W)
    (hb : ∀ (W : WX) (pn : List (Addr × Obj)) (xe : Value → Shared → Prop) (F' : FP), Takes (X.tr pn xe) W → PassesOwn (model X.prog X.w) X.A X.env xe → Sub F F' → WOk F' W → PSs (X.tr pn xe) body (sD F' Tb))
    (hh : HdD X F (h₀ :: hds) l cs) : PS X (.Try body (h₀ :: hds) [] [] pos) (sD F (dTryN cs Tb)) := by
  refine PS.imp (ps_try_nm (tb := fun W De σ H => ∃ F' : FP, (Sub F F' ∧ WOk F' W) ∧ sD F' Tb De σ H) hs hf hN tk (fun W pn xe t1 p1 => PSs.exP fun F' => PSs.andP fun h => hb W pn xe F' t1 p1 h.1 h.2) hh.nm) ?_
  rintro De σ H ⟨N, env, Dd, f, hT, ok⟩
  have g := f.n.gr
  refine ⟨{ F with ex := fun x env' => wDs F.ex Dd cs x env', N1 := N, H1 := H }, ⟨⟨rfl, rfl, rfl, rfl, g⟩, ?_⟩, N, env, Dd, f.rebase _, hT, ok.rebase g⟩
  intro N' σ' H' env' y cls od f' xr hx
  exact hh.wish hK wo (f'.back g) xr (ok.of f'.n.gr) hx
/-! ### in a suite: e.f -/
def dXf (a : Addr) (y : DX) (i : Nat) (f : Str) : TDE := fun _ env Q => env[i]? = some (.raw (.ref a)) ∧ match y.fs.lookup f with
  | some d => Q d
  | none => False
theorem zip_lookup {K : PySem.W.Frag} {Z : Zn} {N : Addr → Prop} {H : Hp} {f : Str} {d : D} : ∀ {fs : List (Str × D)} {vs : List V}, Reps K Z N H (fs.map (·.2)) vs → fs.lookup f = some d → ∃ v, ((fs.map (·.1)).zip vs).lookup f = some v ∧ Rep K Z N H d v
  | [], _, _, e => by cases e
  | (g, x) :: fs, _, ⟨v, r, rfl, h1, h2⟩, e => by
    rw [List.lookup_cons] at e
    rw [List.map_cons, List.zip_cons_cons, List.lookup_cons]
    cases q : (f == g) with
    | true =>
      rw [q] at e
      cases e
      exact ⟨v, rfl, h1⟩
    | false =>
      rw [q] at e
      exact zip_lookup h2 e
theorem xr_at {F : FP} {N : Addr → Prop} {σ : L2.St} {H : Hp} {env : SE} {y : DX} {cls : Value} {d : Option Addr} (f : FOk F N σ H env) (xr : XRep F.K F.Z F.N1 F.H1 y cls d) : XRep F.K F.Z N H y cls d := by
  obtain ⟨h1, h2 | ⟨dd, vs, e, n, h3, h4⟩⟩ := xr
  · exact ⟨h1, .inl h2⟩
  · obtain ⟨h5, n5⟩ := f.n.gr dd _ n kp_xd h3
    exact ⟨h1, .inr ⟨dd, vs, e, n5, h5, Reps.mono f.n.gr _ _ h4⟩⟩
variable {a : Addr} {oe : Obj} {cls : Value} {d : Option Addr} {pn : List (Addr × Obj)} {y : DX} {i : Nat} {x : Str} {p pos : Pos} {F' : FP} {c : Cl}
theorem d_xf {fl : Str} (hK : F.K = X.K) (S : SuiteF F c cls d y F') (hz : Zc cls d oe) (hv : ∃ vs, oe.data = .fields vs) (hX : ∃ C, clsAt X.K y.cls = .ref C ∧ XfC X.K C ∧ PySem.W.findIn X.K (.ref C) fl = some none) (he : PE (X.suite a ((a, oe) :: pn)) (.Name x p) (tVar i))
    (hb : attributeBase (.Name x p) fl X.env (eval (.Name x p) X.env) = eval (.Name x p) X.env := by rfl) : PE (X.suite a ((a, oe) :: pn)) (.Attribute (.Name x p) fl pos) (tD F' (dXf a y i fl)) := by
  obtain ⟨C, hC, T, hno⟩ := hX
  refine PE.imp (pe_xf T hno hz hv he hb) ?_
  rintro σ H Q ⟨N, env, Qd, f, ⟨h1, h2⟩, k⟩
  have e := f.slot i _ h1
  obtain ⟨q1, q2⟩ := xr_at f S.xr
  have hc : cls = .ref C := by rw [q1, S.k, hK]; exact hC
  refine ⟨.ref a, e, rfl, hc, ?_⟩
  split at h2
  · rename_i dv hl
    rcases q2 with ⟨q3, _⟩ | ⟨dd, vs, e1, n, h3, h4⟩
    · rw [q3] at hl
      cases hl
    · obtain ⟨v, l1, l2⟩ := zip_lookup h4 hl
      exact ⟨dd, _, v, e1, h3, l1, k v H dv Ext.refl l2 h2⟩
  · exact h2.elim
/-! ### isinstance(e, C) -/
structure ExIs (K : PySem.W.Frag) (C : Addr) : Prop where
  xf : XfC K C
  hcl : (PySem.W.clsIn K C).isSome = true
  ha : PySem.W.findIn K (.ref C) "__class__" = some (some (.builtin "object.__class__"))
  hn : PySem.W.specialIn K (.builtin "object.__class__") "__get__" = some (some (.builtin "getset_descriptor.__get__"))
  ht : PySem.W.takesIn K (.builtin "object.__class__") = some true
  hm : PySem.W.mroIn K C (.type "object") = some true
def dIsX (a : Addr) (y : DX) (i : Nat) (tb : Str → Option Bool) : TDE := fun _ env Q => env[i]? = some (.raw (.ref a)) ∧ match tb y.cls with
  | some b => Q (.bl b)
  | none => False
def rIsX (K : PySem.W.Frag) (D a : Addr) (d : Option Addr) : List V → Hp → VK → Prop := fun xs H Q => (∀ dd, d = some dd → ∃ fs, H dd = some (.xd fs)) ∧ ∃ (cv : Addr) (b : Bool), xs = [.ref a, .ref cv] ∧ PySem.W.kitOne K (.ref D) (.ref cv) = some b ∧ Q (.bl b) H
theorem cr_isX {D : Addr} (C : ExIs X.K D) (hz : Zc (.ref D) d oe) (hv : ∃ vs, oe.data = .fields vs) : CallR (X.suite a ((a, oe) :: pn)) (.builtin "isinstance") (rIsX X.K D a d) := by
  intro pins s σ H xs us Q I r h
  obtain ⟨hd, cv, b, rfl, e, q⟩ := h
  obtain ⟨u1, r1, rfl, hu1, r2⟩ : ∃ u1 r1, us = u1 :: r1 ∧ RelV (.ref a) u1 ∧ Vals [.ref cv] r1 := by
    cases r with
    | cons ra rb => exact ⟨_, _, rfl, ra, rb⟩
  obtain ⟨u2, rfl, hu2⟩ := vals1 r2
  obtain rfl : u1 = .ref a := hu1
  obtain rfl : u2 = .ref cv := hu2
  obtain ⟨hget, _⟩ := I.pin (a, oe) (List.mem_append.mpr (.inl List.mem_cons_self))
  obtain ⟨vs, hdat⟩ := hv
  obtain ⟨od, J⟩ : ∃ od, PySem.W.InstAt s.heap a oe D od := by
    have nc : PySem.W.notCls oe = true := by
      unfold PySem.W.notCls
      rw [hdat] <;> rfl
    cases d with
    | none => exact ⟨none, hget, hz.1, nc, by rw [hz.2]; trivial⟩
    | some dd =>
      obtain ⟨fs, hx⟩ := hd dd rfl
      obtain ⟨mA, ⟨o, es, ep, ho, hr⟩, _⟩ : ObjOk X.prog X.w H s.heap dd (.xd fs) := I.hok dd _ hx
      exact ⟨some o, hget, hz.1, nc, by rw [hz.2]; exact ho⟩
  exact PySem.W.kia_one (PySem.W.kitx_exc C.hcl C.xf.ga C.xf.gg C.xf.exC C.ha C.hn C.ht C.hm) I.kIn J e (fun z => nomatch z) fun tk => ⟨.bl b, H, I.kept (t' := tk) fun _ _ z => z, rfl, q⟩
theorem d_isX {C2 : Addr} {m : Str} {p1 p2 : Pos} {tb : Str → Option Bool} (hK : F.K = X.K) (S : SuiteF F c cls d y F') (hz : Zc cls d oe) (hv : ∃ vs, oe.data = .fields vs) (hX : ∃ C, clsAt X.K y.cls = .ref C ∧ ExIs X.K C) (he : PE (X.suite a ((a, oe) :: pn)) (.Name x p) (tVar i))
    (ht : ∀ b, tb y.cls = some b → PySem.W.kitOne X.K (clsAt X.K y.cls) (.ref C2) = some b) (hg : Gl X "isinstance") (hm : X.mg "isinstance" = none) (hg2 : Gl X m) (hm2 : X.mg m = some (.ref C2)) (hd2 : (m == ("__debug__" : Str)) = false := by decide)
    (hs1 : starEach [.Name x p, .Name m p2] X.env = (false, eval (.Name x p) X.env) :: starEach [.Name m p2] X.env := by rfl) (hs2 : starEach [.Name m p2] X.env = (false, eval (.Name m p2) X.env) :: starEach [] X.env := by rfl) (hpl : (backTo pos (starEach [.Name m p2] X.env)).any (·.1) = false := by rfl) :
    PE (X.suite a ((a, oe) :: pn)) (.Call (.Name "isinstance" p1) [.Name x p, .Name m p2] [] pos) (tD F' (dIsX a y i tb)) := by
  obtain ⟨C, hC, T⟩ := hX
  have hc : cls = .ref C := by
    rw [S.xr.1, S.k, hK]
    exact hC
  subst hc
  refine PE.imp (pe_callB (cr_isX T hz hv) hg hm (by decide +kernel) (pa_cons he (pa_cons (pe_glob (v := .ref C2) hg2 hm2 rfl hd2) pa_nil hs2) hs1) (by decide) (by decide) hs1 hpl) ?_
  rintro σ H Q ⟨N, env, Qd, f, ⟨h1, h2⟩, k⟩
  have e := f.slot i _ h1
  obtain ⟨q1, q2⟩ := xr_at f S.xr
  split at h2
  · rename_i b hb
    refine ⟨.ref a, e, ?_, C2, b, rfl, by rw [← hC]; exact ht b hb, k _ H _ Ext.refl rep_bl h2⟩
    intro dd e1
    rcases q2 with ⟨_, q3⟩ | ⟨d2, vs, e2, n, h3, h4⟩
    · rw [q3] at e1
      cases e1
    · rw [e2] at e1
      cases e1
      exact ⟨_, h3⟩
  · exact h2.elim
end
end DL
set_option Elab.async false
set_option linter.all false
set_option maxRecDepth 100000
set_option maxHeartbeats 2000000
/-! slices, in, ^, chains, sum, tuple(..), list(..), str(..), min, max over data -/
namespace DL
open PySem PySem.Spec L2
open PyProof.Rows hiding St
section
variable {X : Cx} {F : FP} {a b c e : Expr} {es : List Expr} {pos p : Pos} {Ta Tb Tc : TDE} {Tas : TDA}
/-! ### slices -/
def cutD {α : Type} (xs : List α) (lo hi : Option Int) : List α := (xs.drop (HT.sIx xs.length 0 lo)).take (HT.sIx xs.length xs.length hi - HT.sIx xs.length 0 lo)
abbrev TDO := XW → SE → (Option Int → Prop) → Prop
def dNoPart : TDO := fun _ _ Q => Q none
def dPart (T : TDE) : TDO := fun ξ env Q => T ξ env fun d => match d with
  | .int i => Q (some i)
  | _ => False
def tDO (F : FP) (T : TDO) : TO := fun σ H Q => ∃ N env Qd, FOk F N σ H env ∧ T F.ex env Qd ∧ ∀ o H', Ext F.Z H H' → Qd o → Q o H'
theorem PO.imp {lo : Option Expr} {t t' : TO} (h : PO X lo t) (hi : ∀ σ H Q, t' σ H Q → t σ H Q) : PO X lo t' := ⟨fun pins s σ H Q I hw => h.run pins s σ H Q I (hi _ _ _ hw)⟩
theorem do_none : PO X none (tDO F dNoPart) := PO.imp po_none (by
  rintro σ H Q ⟨N, env, Qd, f, hT, k⟩
  exact k none H Ext.refl hT)
theorem do_some (h : PE X e (tD F Ta)) : PO X (some e) (tDO F (dPart Ta)) := PO.imp (po_some h) (by
  rintro σ H Q ⟨N, env, Qd, f, hT, k⟩
  refine ⟨N, env, _, f, hT, fun v H1 d e1 r q => ?_⟩
  cases d <;> first | exact q.elim | exact ⟨_, r, k _ _ e1 q⟩)
def gSl (x : D) (lo hi : Option Int) (Q : D → Prop) : Prop := match x with
  | .tup ds => Q (.tup (cutD ds lo hi))
  | .lst ds => Q (.lst (cutD ds lo hi))
  | _ => False
def dSl (T : TDE) (l h : TDO) : TDE := fun ξ env Q => T ξ env fun x => l ξ env fun lo => h ξ env fun hi => gSl x lo hi Q
theorem Reps.cut {K : PySem.W.Frag} {Z : Zn} {N : Addr → Prop} {H : Hp} {ds : List D} {vs : List V} (r : Reps K Z N H ds vs) (lo hi : Option Int) : Reps K Z N H (cutD ds lo hi) (cutV vs lo hi) := by
  unfold cutD cutV
  rw [r.length]
  exact (r.drop _).take _
theorem cut_whole {α : Type} {xs : List α} {lo hi : Option Int} (h : HT.sIx xs.length 0 lo = 0 ∧ HT.sIx xs.length xs.length hi = xs.length) : cutD xs lo hi = xs := by
  unfold cutD
  rw [h.1, h.2]
  simp
theorem d_slice {lo hi : Option Expr} {p2 : Pos} {l h : TDO} (hK : F.K = X.K) (he : PE X e (tD F Ta)) (hl : PO X lo (tDO F l)) (hu : PO X hi (tDO F h)) : PE X (.Subscript e (.Slice lo hi none p2) pos) (tD F (dSl Ta l h)) := PE.imp (pe_slice (SlR.or sl_tupA sl_list) he hl hu) (by
  rintro σ H Q ⟨N, env, Qd, f, hT, k⟩
  refine ⟨N, env, _, f, hT, fun x H1 d e1 r1 q1 => ⟨N, env, _, f.ext' e1, q1, fun lo H2 e2 q2 => ⟨N, env, _, (f.ext' e1).ext' e2, q2, fun hi H3 e3 q3 => ?_⟩⟩⟩
  have f3 := ((f.ext' e1).ext' e2).ext' e3
  have r3 := r1.ext (e2.trans e3) f.n.z
  have e := (e1.trans e2).trans e3
  cases d <;> first | exact q3.elim | skip
  · rename_i ds
    have r4 := r3
    obtain ⟨a, vs, rfl, ra, rs⟩ := r3
    refine .inl ⟨a, vs, rfl, by rw [← hK]; exact sqt_of ra, fun hw => ?_, fun hw p hp => ?_⟩
    · refine k _ H3 _ e r4 ?_
      rw [← rs.length] at hw
      rw [show gSl (.tup ds) lo hi Qd = Qd (.tup (cutD ds lo hi)) from rfl, cut_whole hw] at q3
      exact q3
    · exact k _ _ _ (e.trans (f3.n.lay hp)) (rep_newT f3.n hp (rs.cut lo hi)) q3
  · rename_i ds
    obtain ⟨a, vs, rfl, na, ra, rs⟩ := r3
    exact .inr ⟨a, vs, rfl, SqL.of ra, fun p hp => k _ _ _ (e.trans (f3.n.lay hp)) (rep_newL f3.n hp (rs.cut lo hi)) q3⟩)
/-! ### in -/
def vOf : D → Option V
  | .non => some .non
  | .bl b => some (.bl b)
  | .int i => some (.int i)
  | .str x => some (.str x)
  | _ => none
theorem vOf_rep {K : PySem.W.Frag} {Z : Zn} {N : Addr → Prop} {H : Hp} {d : D} {v w : V} (h : vOf d = some w) (r : Rep K Z N H d v) : v = w ∧ flatV w = true := by
  cases d <;> first | (cases h; done) | skip
  all_goals
    cases h
    exact ⟨r, rfl⟩
theorem vOfs_reps {K : PySem.W.Frag} {Z : Zn} {N : Addr → Prop} {H : Hp} : ∀ {ds : List D} {vs ws : List V}, ds.mapM vOf = some ws → Reps K Z N H ds vs → vs = ws ∧ ws.all flatV = true
  | [], _, _, h, r => by
    cases h
    cases r
    exact ⟨rfl, rfl⟩
  | d :: ds, _, _, h, ⟨v, r, rfl, h1, h2⟩ => by
    rw [List.mapM_cons] at h
    cases q : vOf d with
    | none => rw [q] at h; cases h
    | some w =>
      cases q2 : ds.mapM vOf with
      | none => rw [q, q2] at h; cases h
      | some ws =>
        rw [q, q2] at h
        cases h
        obtain ⟨rfl, f1⟩ := vOf_rep q h1
        obtain ⟨rfl, f2⟩ := vOfs_reps q2 h2
        exact ⟨rfl, by rw [List.all_cons, f1, f2]; rfl⟩
def seqOf : D → Option (List D)
  | .tup ds => some ds
  | .lst ds => some ds
  | _ => none
def gIn (neg : Bool) : G2 := fun x y Q => match vOf x, (seqOf y).bind (·.mapM vOf) with
  | some v, some vs => Q (.bl (if neg then !inV v vs else inV v vs))
  | _, _ => False
theorem opd_in (neg : Bool) : OpD F (rIn F.K neg) (gIn neg) := ⟨by
  intro N H x y dx dy Qd Q n rx ry h k
  unfold gIn at h
  split at h
  · rename_i v vs h1 h2
    obtain ⟨rfl, f1⟩ := vOf_rep h1 rx
    cases dy <;> first | (cases h2; done) | skip
    · rename_i ds
      obtain ⟨a, ws, rfl, ra, rs⟩ := ry
      obtain ⟨rfl, f2⟩ := vOfs_reps (show ds.mapM vOf = some vs from h2) rs
      exact ⟨a, _, rfl, .inr (sqt_of ra), f1, f2, k _ _ _ Ext.refl rep_bl h⟩
    · rename_i ds
      obtain ⟨a, ws, rfl, na, ra, rs⟩ := ry
      obtain ⟨rfl, f2⟩ := vOfs_reps (show ds.mapM vOf = some vs from h2) rs
      exact ⟨a, _, rfl, .inl (SqL.of ra), f1, f2, k _ _ _ Ext.refl rep_bl h⟩
  · exact h.elim⟩
theorem d_in (hK : F.K = X.K) (ha : PE X a (tD F Ta)) (hb : PE X b (tD F Tb)) (hm : behindInMarks .In b = false := by rfl) : PE X (.Compare a [.In] [b] pos) (tD F (dBin (gIn false) Ta Tb)) := by
  have o := opd_in (F := F) false
  rw [hK] at o
  exact d_cmp op_in_seq o ha hb hm
theorem dt_in (hK : F.K = X.K) (ha : PE X a (tD F Ta)) (hb : PE X b (tD F Tb)) (hm : behindInMarks .In b = false := by rfl) : PT X (.Compare a [.In] [b] pos) (tDT F (dTest (dBin (gIn false) Ta Tb))) := by
  have o := opd_in (F := F) false
  rw [hK] at o
  exact dt_cmp op_in_seq o ha hb hm
theorem d_nin (hK : F.K = X.K) (ha : PE X a (tD F Ta)) (hb : PE X b (tD F Tb)) (hm : behindInMarks .NotIn b = false := by rfl) : PE X (.Compare a [.NotIn] [b] pos) (tD F (dBin (gIn true) Ta Tb)) := by
  have o := opd_in (F := F) true
  rw [hK] at o
  exact d_cmp op_notIn_seq o ha hb hm
theorem dt_nin (hK : F.K = X.K) (ha : PE X a (tD F Ta)) (hb : PE X b (tD F Tb)) (hm : behindInMarks .NotIn b = false := by rfl) : PT X (.Compare a [.NotIn] [b] pos) (tDT F (dTest (dBin (gIn true) Ta Tb))) := by
  have o := opd_in (F := F) true
  rw [hK] at o
  exact dt_cmp op_notIn_seq o ha hb hm
/-! ### ^ -/
abbrev gXor : G2 := gI0 fun i j => .int (Builtin.bitXor i j)
theorem d_xor (ha : PE X a (tD F Ta)) (hb : PE X b (tD F Tb)) : PE X (.BinOp a .BitXor b pos) (tD F (dBin gXor Ta Tb)) := d_op op_xor (opd_I0 fun _ _ _ _ => rfl) ha hb
abbrev gModN : G2 := gI (fun _ j => j ≠ 0) fun i j => .int (i.fmod j)
theorem d_modN (ha : PE X a (tD F Ta)) (hb : PE X b (tD F Tb)) : PE X (.BinOp a .Mod b pos) (tD F (dBin gModN Ta Tb)) := d_op op_modN (opd_I fun _ _ _ _ => rfl) ha hb
/-! ### a < b < c -/
def dChain (g g' : G2) (Ta Tb Tc : TDE) : TDE := fun ξ env Q => Ta ξ env fun x => Tb ξ env fun y => g x y fun z => match z with
  | .bl true => Tc ξ env fun w => g' y w Q
  | .bl false => Q (.bl false)
  | _ => False
theorem chain_imp {r r' : R2} {g g' : G2} (hg : OpD F r g) (hg' : OpD F r' g') : ∀ σ H Q, tD F (dChain g g' Ta Tb Tc) σ H Q → tChain r r' (tD F Ta) (tD F Tb) (tD F Tc) σ H Q := by
  rintro σ H Q ⟨N, env, Qd, f, hT, k⟩
  refine ⟨N, env, _, f, hT, fun x H1 dx e1 rx q1 => ⟨N, env, _, f.ext' e1, q1, fun y H2 dy e2 ry q2 => ?_⟩⟩
  have f2 := (f.ext' e1).ext' e2
  refine hg.ok N H2 x y dx dy _ _ f2.n (rx.ext e2 f.n.z) ry q2 fun v H3 d e3 r3 q3 => ?_
  have f3 := f2.ext' e3
  have e := (e1.trans e2).trans e3
  split at q3
  · refine ⟨true, r3, ?_⟩
    rw [if_pos rfl]
    exact ⟨N, env, _, f3, q3, fun w H4 dw e4 rw' q4 => hg'.ok N H4 y w dy dw _ _ (f3.ext' e4).n (ry.ext (e3.trans e4) f.n.z) rw' q4 fun v H5 d5 e5 r5 q5 => k v H5 d5 ((e.trans e4).trans e5) r5 q5⟩
  · refine ⟨false, r3, ?_⟩
    rw [if_neg Bool.false_ne_true]
    exact k _ _ _ e rep_bl q3
  · exact q3.elim
theorem d_chain {op op' : CmpOp} {r r' : R2} {g g' : G2} (ho : OpR X (compareOp op) r) (ho' : OpR X (compareOp op') r') (hg : OpD F r g) (hg' : OpD F r' g') (ha : PE X a (tD F Ta)) (hb : PE X b (tD F Tb)) (hc : PE X c (tD F Tc))
    (hm : lastMarks [op, op'] [b, c] = false := by with_unfolding_all rfl) : PE X (.Compare a [op, op'] [b, c] pos) (tD F (dChain g g' Ta Tb Tc)) := PE.imp (pe_chain ho ho' ha hb hc hm) (chain_imp hg hg')
theorem dt_chain {op op' : CmpOp} {r r' : R2} {g g' : G2} (ho : OpR X (compareOp op) r) (ho' : OpR X (compareOp op') r') (hg : OpD F r g) (hg' : OpD F r' g') (ha : PE X a (tD F Ta)) (hb : PE X b (tD F Tb)) (hc : PE X c (tD F Tc))
    (hm : lastMarks [op, op'] [b, c] = false := by with_unfolding_all rfl) : PT X (.Compare a [op, op'] [b, c] pos) (tDT F (dTest (dChain g g' Ta Tb Tc))) := PT.imp (pt_chain ho ho' ha hb hc hm) (tTest_imp (chain_imp hg hg'))
theorem od_lt : OpD F (rI0 fun i j => .bl (decide (i < j))) gLt := opd_I0 fun _ _ _ _ => rfl
theorem od_le : OpD F (rI0 fun i j => .bl (decide (i ≤ j))) gLe := opd_I0 fun _ _ _ _ => rfl
/-! ### sum -/
def intsOf : List D → Option (List Int)
  | [] => some []
  | .int i :: ds => (intsOf ds).map (i :: ·)
  | _ :: _ => none
theorem intsOf_eq : ∀ {ds : List D} {ns : List Int}, intsOf ds = some ns → ds = ns.map D.int
  | [], ns, h => by simp [intsOf] at h; subst h; rfl
  | d :: ds, ns, h => by
    cases d <;> first | (simp [intsOf] at h; done) | skip
    rename_i i
    simp only [intsOf, Option.map_eq_some_iff] at h
    obtain ⟨r, h1, h2⟩ := h
    rw [← h2, intsOf_eq h1]; rfl
theorem intsOf_map (ns : List Int) : intsOf (ns.map D.int) = some ns := by
  induction ns with
  | nil => rfl
  | cons n ns ih => rw [List.map_cons, intsOf, ih]; rfl
def gSum : GA := fun xs Q => match xs with
  | [x] => match (seqOf x).bind intsOf with
    | some ns => Q (.int ns.sum)
    | none => False
  | _ => False
def rSumA (K : PySem.W.Frag) : List V → Hp → VK → Prop := fun vs H Q => ∃ (a : Addr) (ns : List Int), vs = [V.ref a] ∧ (SqL K H a (ns.map V.int) ∨ SqT K H a (ns.map V.int)) ∧ Q (.int ns.sum) H
theorem cr_sumA (hc : X.calm = true) : CallR X (.builtin "sum") (rSumA X.K) := by
  intro pins s σ H vs us Q I r h
  obtain ⟨a, ns, rfl, hs | ht, q⟩ := h
  · exact cr_sum hc pins s σ H _ us Q I r ⟨a, ns, rfl, hs, q⟩
  · obtain ⟨its, rv, hl, _⟩ := I.tuple ht
    rw [Vals.ref1 r]
    obtain ⟨xs, e⟩ := rv.ints.allInts.items
    have hn : numsOf (intItems xs).toList = ns := by rw [← e]; exact rv.ints.numsOf
    rw [nums_intItems] at hn
    rw [e] at hl
    have ht2 : s.heap.IsTuple a (intItems xs) := let ⟨o, ho, hc, n, hd⟩ := hl; ⟨o, ho, hc, n, hd⟩
    refine PySem.W.ktm_sumG (I.ok.hd hc) ht2 fun h' tk t' hk => ⟨.int ns.sum, H, I.kept hk, ⟨t', ?_⟩, q⟩
    rw [preSum_eq, List.take_of_length_le (by simp), hn]
theorem cd_sum : CallD F (rSumA F.K) gSum := ⟨by
  intro N H vs ds Qd Q n r h k
  unfold gSum at h
  split at h
  · rename_i x
    split at h
    · rename_i ns hb
      obtain ⟨v, r, rfl, h1, h2⟩ := r
      cases h2
      cases x <;> first | (cases hb; done) | skip
      · rename_i ds
        obtain ⟨a, vs, rfl, ra, rs⟩ := h1
        rw [intsOf_eq (show intsOf ds = some ns from hb)] at rs
        rw [rs.ints] at ra
        exact ⟨a, ns, rfl, .inr (sqt_of ra), k _ _ _ Ext.refl rep_int h⟩
      · rename_i ds
        obtain ⟨a, vs, rfl, na, ra, rs⟩ := h1
        rw [intsOf_eq (show intsOf ds = some ns from hb)] at rs
        rw [rs.ints] at ra
        exact ⟨a, ns, rfl, .inl (SqL.of ra), k _ _ _ Ext.refl rep_int h⟩
    · exact h.elim
  · exact h.elim⟩
/-! ### tuple(x), list(x), str(i), min, max -/
def gTuple : GA := fun xs Q => match xs with
  | [.lst ds] => Q (.tup ds)
  | [.tup ds] => Q (.tup ds)
  | _ => False
theorem cd_tuple : CallD F (fun xs H Q => ∃ p ys, xs = [.ref p] ∧ ((SqL F.K H p ys ∧ ∀ l, H l = none → Q (.ref l) (upd H l (.tup ys))) ∨ (SqT F.K H p ys ∧ Q (.ref p) H))) gTuple := ⟨by
  intro N H vs ds Qd Q n r h k
  unfold gTuple at h
  split at h
  · obtain ⟨v, r, rfl, h1, h2⟩ := r
    cases h2
    obtain ⟨a, vs, rfl, na, ra, rs⟩ := h1
    exact ⟨a, vs, rfl, .inl ⟨SqL.of ra, fun p hp => k _ _ _ (n.lay hp) (rep_newT n hp rs) h⟩⟩
  · obtain ⟨v, r, rfl, h1, h2⟩ := r
    cases h2
    have h3 := h1
    obtain ⟨a, vs, rfl, ra, rs⟩ := h1
    exact ⟨a, vs, rfl, .inr ⟨sqt_of ra, k _ _ _ Ext.refl h3 h⟩⟩
  · exact h.elim⟩
def gList : GA := fun xs Q => match xs with
  | [.lst ds] => Q (.lst ds)
  | [.tup ds] => Q (.lst ds)
  | _ => False
theorem cd_list : CallD F (fun xs H Q => ∃ p ys, xs = [.ref p] ∧ (SqL F.K H p ys ∨ SqT F.K H p ys) ∧ ∀ l, H l = none → Q (.ref l) (upd H l (.lst ys))) gList := ⟨by
  intro N H vs ds Qd Q n r h k
  unfold gList at h
  split at h
  · obtain ⟨v, r, rfl, h1, h2⟩ := r
    cases h2
    obtain ⟨a, vs, rfl, na, ra, rs⟩ := h1
    exact ⟨a, vs, rfl, .inl (SqL.of ra), fun p hp => k _ _ _ (n.lay hp) (rep_newL n hp rs) h⟩
  · obtain ⟨v, r, rfl, h1, h2⟩ := r
    cases h2
    obtain ⟨a, vs, rfl, ra, rs⟩ := h1
    exact ⟨a, vs, rfl, .inr (sqt_of ra), fun p hp => k _ _ _ (n.lay hp) (rep_newL n hp rs) h⟩
  · exact h.elim⟩
def gStr : GA := fun xs Q => match xs with
  | [.int i] => i.natAbs.log2 < 1920 ∧ Q (.str (toString i))
  | _ => False
theorem cd_str : CallD F (fun xs H Q => ∃ i : Int, xs = [.int i] ∧ i.natAbs.log2 < 1920 ∧ Q (.str (toString i)) H) gStr := ⟨by
  intro N H vs ds Qd Q n r h k
  unfold gStr at h
  split at h
  · obtain ⟨v, r, rfl, h1, h2⟩ := r
    cases h2
    exact ⟨_, by rw [show v = _ from h1], h.1, k _ _ _ Ext.refl rep_str h.2⟩
  · exact h.elim⟩
def gMax2 : GA := fun xs Q => match xs with
  | [.int i, .int j] => Q (.int (if j > i then j else i))
  | _ => False
def gMin2 : GA := fun xs Q => match xs with
  | [.int i, .int j] => Q (.int (if j < i then j else i))
  | _ => False
theorem cd_max2 : CallD F (fun xs H Q => ∃ i j, xs = [.int i, .int j] ∧ Q (.int (if j > i then j else i)) H) gMax2 := ⟨by
  intro N H vs ds Qd Q n r h k
  unfold gMax2 at h
  split at h
  · obtain ⟨v, _, rfl, h1, w, _, rfl, h2, h3⟩ := r
    cases h3
    exact ⟨_, _, by rw [show v = _ from h1, show w = _ from h2], k _ _ _ Ext.refl rep_int h⟩
  · exact h.elim⟩
theorem cd_min2 : CallD F (fun xs H Q => ∃ i j, xs = [.int i, .int j] ∧ Q (.int (if j < i then j else i)) H) gMin2 := ⟨by
  intro N H vs ds Qd Q n r h k
  unfold gMin2 at h
  split at h
  · obtain ⟨v, _, rfl, h1, w, _, rfl, h2, h3⟩ := r
    cases h3
    exact ⟨_, _, by rw [show v = _ from h1, show w = _ from h2], k _ _ _ Ext.refl rep_int h⟩
  · exact h.elim⟩
end
end DL
set_option Elab.async false
set_option linter.all false
set_option maxRecDepth 100000
set_option maxHeartbeats 2000000
/-! lists of the def's own: made, appended to, stored to, read, let go as data -/
namespace DL
open PySem PySem.Spec L2
open PyProof.Rows hiding St
/-- a new list at p -/
structure NewL (F : FP) (N : Addr → Prop) (σ : L2.St) (H : Hp) (env : SE) (p : Addr) (vs : List V) (H' : Hp) (ds : List D) : Prop where
  ext : Ext F.Z H H'
  f : FOk F (fun q => N q ∨ q = p) σ H' env
  at_ : H' p = some (.lst vs)
  nb : ¬ F.B p
  rs : Reps F.K F.Z (fun q => N q ∨ q = p) H' ds vs
  ap : ∀ (j : Nat) xs, env[j]? = some (.own xs) → σ[j]? = some (some (.ref p)) → False
  fr : ∀ o, Kp o → H p = some o → False
theorem NOk.fr {F : FP} {N : Addr → Prop} {H H1 : Hp} {p : Addr} (n : NOk F N H) (e : Ext F.Z H H1) (hp : H1 p = none) : ∀ o, Kp o → H p = some o → False := fun o k h => by
  have np := (n.ext' e).fresh hp
  rw [e.keep p o (fun z => np (n.z p z)) k h] at hp
  cases hp
theorem FOk.ap {F : FP} {N : Addr → Prop} {σ : L2.St} {H : Hp} {env : SE} (f : FOk F N σ H env) {p : Addr} (np : ¬ N p) : ∀ (j : Nat) xs, env[j]? = some (.own xs) → σ[j]? = some (some (.ref p)) → False := fun j xs h e => by
  obtain ⟨q, vs, h1, h2, _⟩ := f.slot j _ h
  rw [h1] at e
  cases e
  exact np h2
abbrev TDL := XW → SE → (List D → Prop) → Prop
def tDL (F : FP) (T : TDL) : TE := fun σ H Q => ∃ N env Qd, FOk F N σ H env ∧ T F.ex env Qd ∧ ∀ p vs H' ds, NewL F N σ H env p vs H' ds → Qd ds → Q (.ref p) H'
/-- slot i holds the list -/
theorem NewL.own {F : FP} {N : Addr → Prop} {σ : L2.St} {H : Hp} {env : SE} {p : Addr} {vs : List V} {H' : Hp} {ds : List D} (n : NewL F N σ H env p vs H' ds) (i : Nat) : FOk F (fun q => N q ∨ q = p) (σ.set i (some (.ref p))) H' (env.set i (.own ds)) where
  n := n.f.n
  len := by rw [List.length_set, List.length_set]; exact n.f.len
  slot := fun j s h => by
    by_cases hj : i = j
    · subst hj
      have hl : i < env.length := by
        have := (List.getElem?_eq_some_iff.mp h).1
        rwa [List.length_set] at this
      rw [List.getElem?_set_self hl] at h
      cases h
      exact ⟨p, vs, by rw [List.getElem?_set_self (by rw [n.f.len]; exact hl)], .inr rfl, n.nb, n.at_, n.rs⟩
    · rw [List.getElem?_set_ne hj] at h
      rw [List.getElem?_set_ne hj]
      exact n.f.slot j s h
  apart := fun j k q xs ys hjk h1 h2 h3 h4 => by
    have o : ∀ {j : Nat} {xs : List D}, (env.set i (.own ds))[j]? = some (.own xs) → i ≠ j → env[j]? = some (.own xs) := fun {j xs} h hj => by
      rw [List.getElem?_set_ne hj] at h
      exact h
    have at_i : ∀ {r : Addr}, (σ.set i (some (.ref p)))[i]? = some (some (.ref r)) → r = p := fun {r} h => by
      have hl : i < σ.length := by
        have := (List.getElem?_eq_some_iff.mp h).1
        rwa [List.length_set] at this
      rw [List.getElem?_set_self hl] at h
      cases h
      rfl
    by_cases hj : i = j
    · subst hj
      have e := at_i h3
      subst e
      rw [List.getElem?_set_ne hjk] at h4
      exact n.ap k ys (o h2 hjk) h4
    · by_cases hk : i = k
      · subst hk
        have e := at_i h4
        subst e
        rw [List.getElem?_set_ne hj] at h3
        exact n.ap j xs (o h1 hj) h3
      · rw [List.getElem?_set_ne hj] at h3
        rw [List.getElem?_set_ne hk] at h4
        exact n.f.apart j k q xs ys hjk (o h1 hj) (o h2 hk) h3 h4
theorem NewL.evo {F : FP} {N : Addr → Prop} {σ : L2.St} {H : Hp} {env : SE} {p : Addr} {vs : List V} {H' : Hp} {ds : List D} (n : NewL F N σ H env p vs H' ds) (nk : NOk F N H) : Evo N H (fun q => N q ∨ q = p) H' := fun q o nq k e =>
  ⟨n.ext.keep q o (fun z => nq (nk.z q z)) k e, fun z => z.elim nq fun y => n.fr o k (by rw [← y]; exact e)⟩
section
variable {X : Cx} {F : FP} {a b c e : Expr} {es : List Expr} {pos p p1 p2 : Pos} {Ta Tb Tc : TDE} {Tas : TDA} {Tl : TDL} {tt : TDT} {te : TDE}
/-! ### new lists -/
def lLst (T : TDA) : TDL := fun ξ env Q => T ξ env fun ds => ds.length ≤ sizeLine ∧ Q ds
theorem newL_lay {N : Addr → Prop} {σ : L2.St} {H H1 : Hp} {env : SE} {p : Addr} {vs : List V} {ds : List D} (f : FOk F N σ H env) (e : Ext F.Z H H1) (hp : H1 p = none) (r : Reps F.K F.Z N H1 ds vs) : NewL F N σ H env p vs (upd H1 p (.lst vs)) ds := by
  have f1 := f.ext' e
  refine ⟨e.trans (f1.n.lay hp), f1.with kp_lst hp (f1.nb hp), upd_same, f1.nb hp, ?_, f.ap (f1.n.fresh hp), f.n.fr e hp⟩
  exact Reps.mono (fun q o n k h => by
    have ne := ne_of_none h hp
    exact ⟨by rw [upd_ne ne]; exact h, fun z => z.elim n ne⟩) _ _ r
theorem l_lst (h : PA X es (tDA F Tas)) : PE X (.List es pos) (tDL F (lLst Tas)) := PE.imp (pe_lst h) (by
  rintro σ H Q ⟨N, env, Qd, f, hT, k⟩
  refine ⟨N, env, _, f, hT, fun vs H1 ds e1 r1 q1 => ⟨by rw [← r1.length]; exact q1.1, fun p hp => k p vs _ ds (newL_lay f e1 hp r1) q1.2⟩⟩)
theorem lc_endL {N : Addr → Prop} {σ : L2.St} {H0 H1 H' : Hp} {env : SE} {A : Addr} {all : List D} {Ql : List D → Prop} {j : Nat} (f : FOk F N σ H1 env) (hA : H1 A = none) {G : TDG} {Q : VK} (f0 : FOk F N σ H0 env) (e : Ext F.Z H0 H1)
    (k : ∀ p vs H' ds, NewL F N σ H0 env p vs H' ds → Ql ds → Q (.ref p) H') {n : Nat} (hn : all.length = n) (L : LcAt F N H1 A G tt te (wipeD env [j]) all (fun d => match d with | .lst ds => Ql ds | _ => False) n H') : Q (.ref A) H' := by
  obtain ⟨ext, acc, ds, h1, h2, h3, h4⟩ := L
  rw [← hn, List.drop_length] at h4
  have h4 : Ql (ds ++ []) := h4
  rw [List.append_nil] at h4
  exact k A acc H' ds ⟨e.trans ext, f.with' kp_lst hA ext h1, h1, f.nb hA, h3, f.ap (f.n.fresh hA), f0.n.fr e hA⟩ h4
def lLcR (T : TDA) (j : Nat) (tt : TDT) (te : TDE) : TDL := fun ξ env Q => T ξ env fun ds => match ds with
  | [.int n] => (0 ≤ n ∧ n ≤ sizeLine) ∧ lcD (dgName j) tt te (wipeD env [j]) (intsD 0 n.toNat) Q
  | _ => False
theorem lcR_impL {j : Nat} : ∀ σ H Q, tDL F (lLcR Tas j tt te) σ H Q → tLc (iRng1 (tDA F Tas)) (gName j) (tDT F.calm tt) (tD F.calm te) [j] σ H Q := by
  rintro σ H Q ⟨N, env, Qd, f, hT, k⟩
  refine ⟨N, env, _, f, hT, fun vs H1 ds e1 r q => ?_⟩
  split at q
  · rename_i n
    obtain ⟨v, _, rfl, r1, r2⟩ := r
    cases r2
    have f1 := f.ext' e1
    have hs : (sizeLine : Nat) < 2 ^ 62 := by rw [sizeLine_eq]; decide
    refine ⟨n, by rw [show v = _ from r1], by omega, by omega, fun A hA => ?_⟩
    refine lc_range (lo := 0) (n := n.toNat) (fun i H' => LcAt F N H1 A (dgName j) tt te (wipeD env [j]) (intsD 0 n.toNat) (fun d => match d with | .lst ds => Qd ds | _ => False) i H') (lc_start f1.n hA q.2) (fun i H' hi L => ?_) (fun H' L => lc_endL f1 hA f e1 k ints_len L)
    exact lc_turn f1 hA (by rw [ints_len]; omega) (ints_get hi) rep_int L
  · exact q.elim
def lLc (T : TDE) (j : Nat) (tt : TDT) (te : TDE) : TDL := fun ξ env Q => T ξ env fun d => match d with
  | .lst ds => ds.length ≤ sizeLine ∧ lcD (dgName j) tt te (wipeD env [j]) ds Q
  | _ => False
theorem lc_impL {j : Nat} : ∀ σ H Q, tDL F (lLc Ta j tt te) σ H Q → tLc (iList F.K (tD F Ta)) (gName j) (tDT F.calm tt) (tD F.calm te) [j] σ H Q := by
  rintro σ H Q ⟨N, env, Qd, f, hT, k⟩
  refine ⟨N, env, _, f, hT, fun v H1 d e1 r q => ?_⟩
  cases d <;> first | exact q.elim | skip
  rename_i ds
  obtain ⟨a, vs, rfl, na, ra, rs⟩ := r
  have f1 := f.ext' e1
  refine ⟨a, rfl, ⟨vs, SqL.of ra⟩, fun A hA => ?_⟩
  refine lc_list (K := F.K) (a := a) (xs := vs) (fun i H' => LcAt F N H1 A (dgName j) tt te (wipeD env [j]) ds (fun d => match d with | .lst ds => Qd ds | _ => False) i H') (lc_start f1.n hA q.2) (fun i H' _ L => SqL.of (L.ext.keep a _ (fun z => na (f.n.z a z)) kp_lst ra)) (fun i x H' hx L => ?_) (fun H' L => lc_endL f1 hA f e1 k rs.length L)
  obtain ⟨d, hd, rd⟩ := rs.getV hx
  exact lc_turn f1 hA q.1 hd rd L
variable {elt iter tg : Expr} {ifs : List Expr} {scope : Scope} {own : List (Str × Nat)} {j : Nat} {pos' : Pos}
theorem l_lcR (hK : F.K = X.K) (hc : X.calm = true) (hN : X.N.Nodup) (hgl : Gl X "range") (hm : X.mg "range" = none) (ha : PA X [a] (tDA F Tas)) (ok : BlkOk X.N X.env.scope scope own) (hv : own.map (·.2) = [j])
    (hg : ∀ (s : Shared) (H : Hp) (C : Addr) (cl : List (Str × Addr)) (fp : List Addr), PG (X.blk s H scope (compEnvC scope cl C X.env) fp) tg (gName j)) (ht : ∀ (s : Shared) (H : Hp) (C : Addr) (cl : List (Str × Addr)) (fp : List Addr), PTs (X.blk s H scope (compEnvC scope cl C X.env) fp) ifs (tDT F.calm tt))
    (he : ∀ (s : Shared) (H : Hp) (C : Addr) (cl : List (Str × Addr)) (fp : List Addr), PE (X.blk s H scope (compEnvC scope cl C X.env) fp) elt (tD F.calm te)) (hsa : starEach [a] X.env = [(false, eval a X.env)] := by rfl) (hs : ∀ x, foldedSetIterable (.Call (.Name "range" p) [a] [] pos') X.env x = pure x := by intro _; rfl) :
    PE X (.ListComp elt [⟨tg, .Call (.Name "range" p) [a] [] pos', ifs, 0⟩] scope pos) (tDL F (lLcR Tas j tt te)) := by
  have z := pe_lc (pos := pos) hc hN (pi_range1 hgl hm ha hsa) ok hg ht he hs
  rw [hv] at z
  exact PE.imp z lcR_impL
theorem l_lc (hK : F.K = X.K) (hc : X.calm = true) (hN : X.N.Nodup) (hi : PE X iter (tD F Ta)) (ok : BlkOk X.N X.env.scope scope own) (hv : own.map (·.2) = [j])
    (hg : ∀ (s : Shared) (H : Hp) (C : Addr) (cl : List (Str × Addr)) (fp : List Addr), PG (X.blk s H scope (compEnvC scope cl C X.env) fp) tg (gName j)) (ht : ∀ (s : Shared) (H : Hp) (C : Addr) (cl : List (Str × Addr)) (fp : List Addr), PTs (X.blk s H scope (compEnvC scope cl C X.env) fp) ifs (tDT F.calm tt))
    (he : ∀ (s : Shared) (H : Hp) (C : Addr) (cl : List (Str × Addr)) (fp : List Addr), PE (X.blk s H scope (compEnvC scope cl C X.env) fp) elt (tD F.calm te)) (hs : ∀ x, foldedSetIterable iter X.env x = pure x := by intro _; rfl) :
    PE X (.ListComp elt [⟨tg, iter, ifs, 0⟩] scope pos) (tDL F (lLc Ta j tt te)) := by
  have z := pe_lc (pos := pos) hc hN (pi_list hi) ok hg ht he hs
  rw [hv] at z
  exact PE.imp z (by rw [← hK]; exact lc_impL)
/-- [..] * k -/
def lRep (Ta Tb : TDE) : TDL := fun ξ env Q => Ta ξ env fun x => Tb ξ env fun y => match x, y with
  | .lst xs, .int k => (-(2 ^ 63) ≤ k ∧ k < 2 ^ 63 ∧ xs.length * k.toNat ≤ sizeLine) ∧ Q (List.replicate k.toNat xs).flatten
  | _, _ => False
theorem l_rep (ha : PE X a (tD F Ta)) (hb : PE X b (tD F Tb)) : PE X (.BinOp a .Mult b pos) (tDL F (lRep Ta Tb)) := PE.imp (pe_op op_rep ha hb) (by
  rintro σ H Q ⟨N, env, Qd, f, hT, k⟩
  refine ⟨N, env, _, f, hT, fun x H1 dx e1 rx q1 => ⟨N, env, _, f.ext' e1, q1, fun y H2 dy e2 ry q2 => ?_⟩⟩
  have r3 := rx.ext e2 f.n.z
  split at q2
  · obtain ⟨l, vs, rfl, nl, hl, rl⟩ := r3
    cases (show y = .int _ from ry)
    exact ⟨l, _, vs, rfl, rfl, hl, q2.1.1, q2.1.2.1, by rw [← rl.length]; exact q2.1.2.2, fun p hp => k p _ _ _ (newL_lay f (e1.trans e2) hp (reps_flat rl _)) q2.2⟩
  · exact q2.elim)
/-- a + b, lists -/
def lCat (Ta Tb : TDE) : TDL := fun ξ env Q => Ta ξ env fun x => Tb ξ env fun y => match x, y with
  | .lst xs, .lst ys => xs.length + ys.length ≤ sizeLine ∧ Q (xs ++ ys)
  | _, _ => False
theorem l_cat (ha : PE X a (tD F Ta)) (hb : PE X b (tD F Tb)) : PE X (.BinOp a .Add b pos) (tDL F (lCat Ta Tb)) := PE.imp (pe_op op_cat ha hb) (by
  rintro σ H Q ⟨N, env, Qd, f, hT, k⟩
  refine ⟨N, env, _, f, hT, fun x H1 dx e1 rx q1 => ⟨N, env, _, f.ext' e1, q1, fun y H2 dy e2 ry q2 => ?_⟩⟩
  have r3 := rx.ext e2 f.n.z
  split at q2
  · obtain ⟨l, vs, rfl, nl, hl, rl⟩ := r3
    obtain ⟨b, ws, rfl, nb, hb, rb⟩ := ry
    exact ⟨l, b, vs, ws, rfl, rfl, hl, hb, by rw [← rl.length, ← rb.length]; exact q2.1, fun p hp => k p _ _ _ (newL_lay f (e1.trans e2) hp (rl.append rb)) q2.2⟩
  · exact q2.elim)
/-- list(x) -/
def lList (T : TDE) : TDL := fun ξ env Q => T ξ env fun x => match x with
  | .lst xs => Q xs
  | .tup xs => Q xs
  | _ => False
theorem l_list (hK : F.K = X.K) (hg : Gl X "list") (hm : X.mg "list" = none) (ha : PE X a (tD F Ta)) (he : starEach [a] X.env = (false, eval a X.env) :: starEach [] X.env := by rfl) (hpl : (backTo pos (starEach [] X.env)).any (·.1) = false := by rfl) :
    PE X (.Call (.Name "list" p) [a] [] pos) (tDL F (lList Ta)) := PE.imp (pe_callTy call_list_of hg hm (by decide +kernel) (pa_cons ha pa_nil he) (by decide) (by decide) he hpl) (by
  rintro σ H Q ⟨N, env, Qd, f, hT, k⟩
  refine ⟨N, env, _, f, hT, fun x H1 dx e1 rx q1 => ?_⟩
  rw [← hK]
  split at q1
  · obtain ⟨l, vs, rfl, nl, hl, rl⟩ := rx
    exact ⟨l, vs, rfl, .inl (SqL.of hl), fun p hp => k p _ _ _ (newL_lay f e1 hp rl) q1⟩
  · obtain ⟨l, vs, rfl, hl, rl⟩ := rx
    exact ⟨l, vs, rfl, .inr (sqt_of hl), fun p hp => k p _ _ _ (newL_lay f e1 hp rl) q1⟩
  · exact q1.elim)
/-! ### x = new list; x, y = new list, e -/
def dOwn (T : TDL) (i : Nat) : TDS := fun ξ De env => T ξ env fun ds => De.nx (env.set i (.own ds))
theorem ds_own {i : Nat} {x : Str} {pos' : Pos} (hN : X.N.Nodup) (hi : X.N[i]? = some x) (hx : Loc X.env.scope x) (he : PE X e (tDL F Tl)) (hs : swapsWith e (some (.Name x pos')) pos.line X.env = pure false := by rfl)
    (hf : X.fn x = true ∨ X.env.scope.names.lookup x = some .local := by first | exact .inl rfl | exact .inr rfl | assumption) : PS X (.Assign [.Name x pos'] e pos) (sD F (dOwn Tl i)) :=
  PS.imp (ps_set hN hi hx he hs hf) (by
  rintro De σ H ⟨N, env, Dd, f, hT, ok⟩
  exact ⟨N, env, _, f, hT, fun p vs H' ds n q => ok.nx _ _ _ _ (n.own i) (n.evo f.n) q⟩)
/-- x, y = new list, e -/
def dOwnPar (T : TDL) (Tb : TDE) (i j : Nat) : TDS := fun ξ De env => T ξ env fun ds => Tb ξ env fun y => De.nx ((env.set i (.own ds)).set j (.d y))
theorem NewL.ext' {N : Addr → Prop} {σ : L2.St} {H : Hp} {env : SE} {p : Addr} {vs : List V} {H' H2 : Hp} {ds : List D} (n : NewL F N σ H env p vs H' ds) (nk : NOk F N H) (e : Ext F.Z H' H2) : NewL F N σ H env p vs H2 ds :=
  ⟨n.ext.trans e, n.f.ext' e, e.keep p _ (fun z => n.nb (nk.zin p z)) kp_lst n.at_, n.nb, n.rs.ext e (fun q z => .inl (nk.z q z)), n.ap, n.fr⟩
/-- the old frame, behind the making of a list -/
theorem NewL.old {N : Addr → Prop} {σ : L2.St} {H : Hp} {env : SE} {p : Addr} {vs : List V} {H' : Hp} {ds : List D} (n : NewL F N σ H env p vs H' ds) (f : FOk F N σ H env) : FOk F N σ H' env := f.ext' n.ext
theorem ds_ownPar {i j : Nat} {x y : Str} {px py pt : Pos} {kt k2 pt2} (hc : X.calm = true) (hN : X.N.Nodup) (hi : X.N[i]? = some x) (hj : X.N[j]? = some y) (hij : i ≠ j) (hx : X.env.scope.names.lookup x = some .local) (hy : X.env.scope.names.lookup y = some .local)
    (ha : PE X a (tDL F Tl)) (hb : PE X b (tD F Tb)) (he : starEach [a, b] X.env = (false, eval a X.env) :: starEach [b] X.env := by rfl) (he2 : starEach [b] X.env = (false, eval b X.env) :: starEach [] X.env := by rfl)
    (hw : swappedStores [.Tuple [.Name x px, .Name y py] kt pt] (.Tuple [a, b] k2 pt2) X.env = pure (some [x, y]) := by rfl)
    (hs : swapsWithSole [.Tuple [.Name x px, .Name y py] kt pt] (.Tuple [a, b] k2 pt2) pos.line X.env = pure false := by rfl) : PS X (.Assign [.Tuple [.Name x px, .Name y py] kt pt] (.Tuple [a, b] k2 pt2) pos) (sD F (dOwnPar Tl Tb i j)) :=
  PS.imp (ps_par hc hN hi hj hij hx hy (pa_cons ha (pa_cons hb pa_nil he2) he) hw hs) (by
  rintro De σ H ⟨N, env, Dd, f, hT, ok⟩
  refine ⟨N, env, _, f, hT, fun p vs H1 ds n q => ⟨_, env, _, n.f, q, fun v H2 d e2 r2 q2 => ⟨_, _, rfl, ?_⟩⟩⟩
  have n2 := n.ext' f.n e2
  exact ok.nx _ _ _ _ ((n2.own i).set j r2) (n2.evo f.n) q2)
def dOwnPar3 (T : TDL) (Tb Tc : TDE) (i j l : Nat) : TDS := fun ξ De env => T ξ env fun ds => Tb ξ env fun y => Tc ξ env fun z => De.nx (((env.set i (.own ds)).set j (.d y)).set l (.d z))
theorem ds_ownPar3 {i j l : Nat} {x y z : Str} {px py pz pt : Pos} {kt k2 pt2} (hc : X.calm = true) (hN : X.N.Nodup) (hi : X.N[i]? = some x) (hj : X.N[j]? = some y) (hl : X.N[l]? = some z) (hij : i ≠ j) (hil : i ≠ l) (hjl : j ≠ l)
    (hx : X.env.scope.names.lookup x = some .local) (hy : X.env.scope.names.lookup y = some .local) (hz : X.env.scope.names.lookup z = some .local)
    (ha : PE X a (tDL F Tl)) (hb : PE X b (tD F Tb)) (hc' : PE X c (tD F Tc)) (he : starEach [a, b, c] X.env = (false, eval a X.env) :: starEach [b, c] X.env := by rfl) (he2 : starEach [b, c] X.env = (false, eval b X.env) :: starEach [c] X.env := by rfl) (he3 : starEach [c] X.env = (false, eval c X.env) :: starEach [] X.env := by rfl)
    (hw : swappedStores [.Tuple [.Name x px, .Name y py, .Name z pz] kt pt] (.Tuple [a, b, c] k2 pt2) X.env = pure (some [x, y, z]) := by rfl)
    (hs : swapsWithSole [.Tuple [.Name x px, .Name y py, .Name z pz] kt pt] (.Tuple [a, b, c] k2 pt2) pos.line X.env = pure false := by rfl) : PS X (.Assign [.Tuple [.Name x px, .Name y py, .Name z pz] kt pt] (.Tuple [a, b, c] k2 pt2) pos) (sD F (dOwnPar3 Tl Tb Tc i j l)) :=
  PS.imp (ps_par3 hc hN hi hj hl hij hil hjl hx hy hz (pa_cons ha (pa_cons hb (pa_cons hc' pa_nil he3) he2) he) hw hs) (by
  rintro De σ H ⟨N, env, Dd, f, hT, ok⟩
  refine ⟨N, env, _, f, hT, fun p vs H1 ds n q => ⟨_, env, _, n.f, q, fun v H2 d e2 r2 q2 => ⟨_, env, _, n.f.ext' e2, q2, fun w H3 dw e3 r3 q3 => ⟨_, _, _, rfl, ?_⟩⟩⟩⟩
  have n2 := n.ext' f.n (e2.trans e3)
  exact ok.nx _ _ _ _ (((n2.own i).set j (r2.ext e3 fun q z => .inl (f.n.z q z))).set l r3) (n2.evo f.n) q3)
/-! ### reading it -/
def dOwnIx (i : Nat) (Tb : TDE) : TDE := fun ξ env Q => match env[i]? with
  | some (.own xs) => Tb ξ env fun k => match k with
    | .int j => match atI xs j with
      | some d => Q d
      | none => False
    | _ => False
  | _ => False
theorem d_ownIx {i : Nat} (hK : F.K = X.K) (ha : PE X a (tVar i)) (hb : PE X b (tD F Tb)) (hs : PlainIx b) : PE X (.Subscript a b pos) (tD F (dOwnIx i Tb)) := PE.imp (pe_ix ix_seq ha hb hs) (by
  rintro σ H Q ⟨N, env, Qd, f, hT, k⟩
  unfold dOwnIx at hT
  split at hT
  · rename_i xs hx
    obtain ⟨p, vs, e1, h2, h3, h4, h5⟩ := f.slot i _ hx
    refine ⟨.ref p, e1, N, env, _, f, hT, fun y H1 d e r q => ?_⟩
    split at q
    · split at q
      · rename_i jj _ dv hd
        have h5' := h5.ext e f.n.z
        obtain ⟨v, h6, h7⟩ := atI_rep h5' hd
        cases (show y = .int _ from r)
        exact .inl ⟨p, vs, _, v, rfl, rfl, SqL.of (e.keep p _ (fun z => h3 (f.n.zin p z)) kp_lst h4), h6, k v H1 dv e h7 q⟩
      · exact q.elim
    · exact q.elim
  · exact hT.elim)
/-- the list as data, for a moment -/
theorem FOk.lend {N : Addr → Prop} {σ : L2.St} {H : Hp} {env : SE} (f : FOk F N σ H env) {i : Nat} {xs : List D} (hx : env[i]? = some (.own xs)) : ∃ p vs, σ[i]? = some (some (.ref p)) ∧ N p ∧ ¬ F.B p ∧ H p = some (.lst vs) ∧ FOk F (fun q => N q ∧ q ≠ p) σ H (env.set i (.d (.lst xs))) := by
  obtain ⟨p, vs, e1, h2, h3, h4, h5⟩ := f.slot i _ hx
  refine ⟨p, vs, e1, h2, h3, h4, ⟨f.n.deck, f.n.ext, fun q h => ⟨f.n.sub q h, fun z => h3 (by rw [← z]; exact h)⟩, f.n.zin, fun q h => f.n.all q h.1, fun q h => f.n.new q h.1, fun q o n k h => ?_, f.n.tb⟩, by rw [List.length_set]; exact f.len, fun j s h => ?_, fun j k q ys zs hjk g1 g2 g3 g4 => ?_⟩
  · obtain ⟨a1, a2⟩ := f.n.gr q o n k h
    exact ⟨a1, fun z => a2 z.1⟩
  · by_cases hj : i = j
    · subst hj
      have hl : i < env.length := (List.getElem?_eq_some_iff.mp hx).1
      rw [List.getElem?_set_self hl] at h
      cases h
      exact ⟨.ref p, e1, p, vs, rfl, fun z => z.2 rfl, h4, h5.less fun q z => z.1⟩
    · rw [List.getElem?_set_ne hj] at h
      have q := f.slot j _ h
      cases s with
      | un => trivial
      | raw v => exact q
      | d x => exact let ⟨v, q1, q2⟩ := q; ⟨v, q1, q2.less fun r z => z.1⟩
      | own ys =>
        obtain ⟨r, ws, q1, q2, q3, q4, q5⟩ := q
        exact ⟨r, ws, q1, ⟨q2, fun z => by subst z; exact f.apart i j r xs ys hj hx h e1 q1⟩, q3, q4, q5.less fun r z => z.1⟩
  · have o : ∀ {j : Nat} {ys : List D}, (env.set i (.d (.lst xs)))[j]? = some (.own ys) → env[j]? = some (.own ys) := fun {j ys} h => by
      by_cases hj : i = j
      · subst hj
        rw [List.getElem?_set_self (List.getElem?_eq_some_iff.mp hx).1] at h
        cases h
      · rw [List.getElem?_set_ne hj] at h
        exact h
    exact f.apart j k q ys zs hjk (o g1) (o g2) g3 g4
def flatD : D → Bool
  | .non => true
  | .bl _ => true
  | .int _ => true
  | .str _ => true
  | _ => false
theorem flat_any {K : PySem.W.Frag} {Z : Zn} {N N' : Addr → Prop} {H : Hp} {d : D} {v : V} (h : flatD d = true) (r : Rep K Z N H d v) : Rep K Z N' H d v := by
  cases d <;> first | exact r | cases h
/-- an expression that reads the list of slot i as data and tells something flat -/
def dLend (i : Nat) (T : TDE) : TDE := fun ξ env Q => match env[i]? with
  | some (.own xs) => T (fun _ _ => False) (env.set i (.d (.lst xs))) fun d => flatD d = true ∧ Q d
  | _ => False
theorem d_lend {i : Nat} (h : PE X e (tD F.calm Ta)) : PE X e (tD F (dLend i Ta)) := PE.imp h (by
  rintro σ H Q ⟨N, env, Qd, f, hT, k⟩
  unfold dLend at hT
  split at hT
  · rename_i xs hx
    obtain ⟨p, vs, e1, h2, h3, h4, f2⟩ := f.lend hx
    exact ⟨_, _, _, f2.wish _, hT, fun v H' d e r q => k v H' d e (flat_any q.1 r) q.2⟩
  · exact hT.elim)
/-! ### let go: from now on it is data -/
def dFreeze (i : Nat) (T : TDS) : TDS := fun ξ De env => match env[i]? with
  | some (.own xs) => T ξ De (env.set i (.d (.lst xs)))
  | _ => False
theorem dss_freeze {i : Nat} {sts : List Stmt} {T : TDS} (h : PSs X sts (sD F T)) : PSs X sts (sD F (dFreeze i T)) := PSs.imp h (by
  rintro De σ H ⟨N, env, Dd, f, hT, ok⟩
  unfold dFreeze at hT
  split at hT
  · rename_i xs hx
    obtain ⟨p, vs, e1, h2, h3, h4, f2⟩ := f.lend hx
    exact ⟨_, _, Dd, f2, hT, ok.of fun q o n k h => ⟨h, fun z => n z.1⟩⟩
  · exact hT.elim)
/-! ### x.append(e), x[i] = e -/
theorem FOk.store {N : Addr → Prop} {σ : L2.St} {H1 : Hp} {env : SE} (f : FOk F N σ H1 env) {i : Nat} {xs ys : List D} {p : Addr} {vs ws : List V} (hx : env[i]? = some (.own xs)) (e1 : σ[i]? = some (some (.ref p))) (h2 : N p) (h3 : ¬ F.B p) (h4 : H1 p = some (.lst vs)) (hr : Reps F.K F.Z N H1 ys ws) :
    FOk F N σ (upd H1 p (.lst ws)) (env.set i (.own ys)) ∧ Evo N H1 N (upd H1 p (.lst ws)) := by
  have ev : Evo N H1 N (upd H1 p (.lst ws)) := fun q o n k h => ⟨by rw [upd_ne (fun z => n (by rw [z]; exact h2))]; exact h, n⟩
  have nz : ¬ InZ F.Z p := fun z => h3 (f.n.zin p z)
  refine ⟨⟨⟨⟨fun a l ez => ?_, fun q hq => tab_upd h4 kp_lst (fun _ h => by cases h) (f.n.deck.2 q hq)⟩, ⟨fun q o n k h => ?_, fun dk => ⟨fun a l ez => ?_, fun q hq => tab_upd h4 kp_lst (fun _ h => by cases h) (f.n.deck.2 q hq)⟩⟩, f.n.sub, f.n.zin, fun q h => ?_, f.n.new, f.n.gr.trans ev, f.n.tb⟩, by rw [List.length_set]; exact f.len, fun j s h => ?_, fun j k q ys' zs hjk g1 g2 g3 g4 => ?_⟩, ev⟩
  · obtain ⟨xs, m, c, k1, k2, k3⟩ := f.n.deck.1 a l ez
    exact ⟨xs, m, c, by rw [upd_ne (fun z => nz (by rw [← z]; exact ⟨a, l, ez, .inl rfl⟩))]; exact k1, by rw [upd_ne (fun z => nz (by rw [← z]; exact ⟨a, l, ez, .inr rfl⟩))]; exact k2, k3⟩
  · have ne : q ≠ p := fun z => by
      subst z
      exact f.n.new q h2 h3 o k h
    rw [upd_ne ne]
    exact f.n.ext.keep q o n k h
  · obtain ⟨xs, m, c, k1, k2, k3⟩ := f.n.deck.1 a l ez
    exact ⟨xs, m, c, by rw [upd_ne (fun z => nz (by rw [← z]; exact ⟨a, l, ez, .inl rfl⟩))]; exact k1, by rw [upd_ne (fun z => nz (by rw [← z]; exact ⟨a, l, ez, .inr rfl⟩))]; exact k2, k3⟩
  · by_cases z : q = p
    · subst z
      exact ⟨_, upd_same, kp_lst⟩
    · obtain ⟨o, q1, q2⟩ := f.n.all q h
      exact ⟨o, by rw [upd_ne z]; exact q1, q2⟩
  · have mv : ∀ q o, ¬ N q → Kp o → H1 q = some o → upd H1 p (.lst ws) q = some o ∧ ¬ N q := fun q o n k h => ev q o n k h
    by_cases hj : i = j
    · subst hj
      rw [List.getElem?_set_self (List.getElem?_eq_some_iff.mp hx).1] at h
      cases h
      exact ⟨p, ws, e1, h2, h3, upd_same, Reps.mono mv _ _ hr⟩
    · rw [List.getElem?_set_ne hj] at h
      have q := f.slot j _ h
      cases s with
      | un => trivial
      | raw v => exact q
      | d x => exact let ⟨v, q1, q2⟩ := q; ⟨v, q1, Rep.mono mv _ _ q2⟩
      | own zs =>
        obtain ⟨r, us, q1, q2, q3, q4, q5⟩ := q
        have ne : r ≠ p := fun z => by
          subst z
          exact f.apart i j r xs zs hj hx h e1 q1
        exact ⟨r, us, q1, q2, q3, by rw [upd_ne ne]; exact q4, Reps.mono mv _ _ q5⟩
  · have o : ∀ {j : Nat} {zs : List D}, (env.set i (.own ys))[j]? = some (.own zs) → ∃ us, env[j]? = some (.own us) := fun {j zs} h => by
      by_cases hj : i = j
      · subst hj
        exact ⟨xs, hx⟩
      · rw [List.getElem?_set_ne hj] at h
        exact ⟨zs, h⟩
    obtain ⟨u1, o1⟩ := o g1
    obtain ⟨u2, o2⟩ := o g2
    exact f.apart j k q u1 u2 hjk o1 o2 g3 g4
def dApp (i : Nat) (T : TDE) : TDS := fun ξ De env => match env[i]? with
  | some (.own xs) => T ξ env fun d => xs.length < sizeLine ∧ De.nx (env.set i (.own (xs ++ [d])))
  | _ => False
theorem ds_app {i : Nat} {x : Str} {apos cpos : Pos} (hK : F.K = X.K) (hx : PE X (.Name x p) (tVar i)) (he : PE X e (tD F Ta)) (hbase : attributeBase (.Name x p) "append" X.env (eval (.Name x p) X.env) = eval (.Name x p) X.env := by rfl)
    (hfew : ((backTo cpos (starEach [e] X.env)).all (fun x => !x.1) && (backToKw cpos (keywordEach [] X.env)).all (fun x => x.1.isSome) && decide ([e].length + ([] : List Keyword).length + (if ([] : List Keyword).isEmpty then 0 else 1) < 30)) = true := by rfl)
    (hline : (apos.endLine == cpos.line) = true := by rfl) (hs : starEach [e] X.env = (false, eval e X.env) :: starEach [] X.env := by rfl) (hplain : (backTo cpos (starEach [] X.env)).any (·.1) = false := by rfl)
    (hsw : swapsWith (.Call (.Attribute (.Name x p) "append" apos) [e] [] cpos) none pos.line X.env = pure false := by rfl) : PS X (.Expr (.Call (.Attribute (.Name x p) "append" apos) [e] [] cpos) pos) (sD F (dApp i Ta)) :=
  PS.imp (ps_expr (pe_bm PySem.F.plainAttrs_list PySem.F.slot_list_append PySem.F.type_list_append mt_append hx (pa_cons he pa_nil hs) hbase hfew hline hs hplain) hsw) (by
  rintro De σ H ⟨N, env, Dd, f, hT, ok⟩
  unfold dApp at hT
  split at hT
  · rename_i xs hx
    obtain ⟨p, vs, e1, h2, h3, h4, h5⟩ := f.slot i _ hx
    refine ⟨.ref p, e1, .inl ⟨rfl, vs, by rw [← hK]; exact SqL.of h4⟩, N, env, _, f, hT, fun v H1 d ex r q => ?_⟩
    have f1 := f.ext' ex
    have h4' : H1 p = some (.lst vs) := ex.keep p _ (fun z => h3 (f.n.zin p z)) kp_lst h4
    have h5' := h5.ext ex f.n.z
    refine ⟨p, vs, v, rfl, rfl, h4', by rw [← h5.length]; exact q.1, ?_⟩
    obtain ⟨f2, ev⟩ := f1.store hx e1 h2 h3 h4' (h5'.snoc r)
    exact ok.nx _ _ _ _ f2 ((Evo.of f.n ex).trans ev) q.2
  · exact hT.elim)
/-- x[k] = e -/
def dSetAt (i : Nat) (Tk Te : TDE) : TDS := fun ξ De env => Te ξ env fun d => match env[i]? with
  | some (.own xs) => Tk ξ env fun k => match k with
    | .int j => match ixN xs.length j with
      | some n => De.nx (env.set i (.own (xs.set n d)))
      | none => False
    | _ => False
  | _ => False
theorem Reps.set {K : PySem.W.Frag} {Z : Zn} {N : Addr → Prop} {H : Hp} {d : D} {v : V} (r : Rep K Z N H d v) : ∀ {ds : List D} {vs : List V} (n : Nat), Reps K Z N H ds vs → Reps K Z N H (ds.set n d) (vs.set n v)
  | [], _, _, h => by cases h; rfl
  | x :: ds, _, 0, ⟨w, u, rfl, h1, h2⟩ => ⟨v, u, rfl, r, h2⟩
  | x :: ds, _, n + 1, ⟨w, u, rfl, h1, h2⟩ => ⟨w, u.set n v, rfl, h1, Reps.set r n h2⟩
theorem ds_setAt {i : Nat} {x : Str} {pk : Expr} {sp : Pos} (hx : PE X (.Name x p) (tVar i)) (hk : PE X pk (tD F Tb)) (he : PE X e (tD F Ta))
    (hA : ∀ v, assign (.Subscript (.Name x p) pk sp) X.env v = (do
      let ov ← holding [v] (eval (.Name x p) X.env)
      let iv ← holding [v, ov] (eval pk X.env)
      standAt sp
      holding [v, ov, iv] (setItem ov iv v)
      release [v, ov, iv] []) := by intro _; rfl)
    (hs : swapsWithSole [.Subscript (.Name x p) pk sp] e pos.line X.env = pure false := by rfl) (hw : swappedStores [.Subscript (.Name x p) pk sp] e X.env = pure none := by rfl) (h1 : (assignEach [.Subscript (.Name x p) pk sp] X.env).map (·.2) = [assign (.Subscript (.Name x p) pk sp) X.env] := by rfl) :
    PS X (.Assign [.Subscript (.Name x p) pk sp] e pos) (sD F (dSetAt i Tb Ta)) := PS.imp (ps_asg he (pg_sub hx hk set_list hA) hs hw h1) (by
  rintro De σ H ⟨N, env, Dd, f, hT, ok⟩
  refine ⟨N, env, _, f, hT, fun v H1 d e1 r q => ?_⟩
  split at q
  · rename_i xs hx
    have f1 := f.ext' e1
    obtain ⟨p, vs, s1, h2, h3, h4, h5⟩ := f1.slot i _ hx
    refine ⟨.ref p, s1, N, env, _, f1, q, fun kv H2 dk e2 r2 q2 => ?_⟩
    split at q2
    · split at q2
      · rename_i j _ n hn
        cases (show kv = .int j from r2)
        have f2 := f1.ext' e2
        have h4' : H2 p = some (.lst vs) := e2.keep p _ (fun z => h3 (f1.n.zin p z)) kp_lst h4
        have h5' := h5.ext e2 f1.n.z
        refine ⟨p, vs, j, n, rfl, rfl, h4', by rw [← h5.length]; exact hn, ?_⟩
        obtain ⟨f3, ev⟩ := f2.store hx s1 h2 h3 h4' (Reps.set (r.ext e2 f1.n.z) n h5')
        exact ok.nx _ _ _ _ f3 ((Evo.of f.n (e1.trans e2)).trans ev) q2
      · exact q2.elim
    · exact q2.elim
  · exact q.elim)
end
end DL
set_option Elab.async false
set_option linter.all false
set_option maxRecDepth 100000
set_option maxHeartbeats 2000000
/-! dicts as data; repr of all data; x[::-1] -/
namespace DL
open PySem PySem.Spec L2
open PyProof.Rows hiding St
/-- the table of modules is a dict of the top -/
def smB (K : PySem.W.Frag) : Bool := match K.lookup sysModules with
  | some ⟨.type "dict", _, _, _⟩ => true
  | _ => false
theorem sm_ne {K : PySem.W.Frag} {h : Heap} (X : K.In h) (c : smB K = true) {a : Addr} {o : Obj} (e : h.get? a = some o) (hc : o.cls = .type "list") : a ≠ sysModules := fun z => by
  subst z
  unfold smB at c
  split at c
  · rename_i d1 d2 d3 q
    have y := X _ _ q
    rw [e] at y
    have y2 := congrArg Obj.cls (Option.some.inj y)
    rw [hc] at y2
    exact absurd (show Value.type "list" = Value.type "dict" from y2) (by decide)
  · cases c
def keyP : Key → PyData
  | .inl i => .int i
  | .inr x => .str x
mutual
def plainR : D → Bool
  | .tup ds => plainRs ds
  | .lst ds => plainRs ds
  | .dct ks ds => decide (ks.length = ds.length) && plainRs ds
  | .deck => false
  | .ty _ => false
  | .kt _ => false
  | .ins _ _ _ => false
  | _ => true
def plainRs : List D → Bool
  | [] => true
  | d :: ds => plainR d && plainRs ds
end
theorem toPk_keys : ∀ {ks : List Key} {ds : List D}, ks.length = ds.length → (toPk ks ds).map (·.1) = ks.map keyP ∧ (toPk ks ds).map (·.2) = toPs ds
  | [], [], _ => ⟨rfl, rfl⟩
  | [], _ :: _, h => by cases h
  | _ :: _, [], h => by cases h
  | k :: ks, d :: ds, h => by
    obtain ⟨h1, h2⟩ := toPk_keys (ks := ks) (ds := ds) (by simpa using h)
    simp only [toPk, List.map_cons, h1, h2, toPs]
    refine ⟨?_, trivial⟩
    cases k <;> rfl
section
variable {X : Cx} {pins : List (Addr × Obj)} {σ : L2.St} {H : Hp} {s : Shared} {K : PySem.W.Frag} {Z : Zn} {N : Addr → Prop}
theorem pairs_reads {P : Program} {w : World} {h : Heap} : ∀ {es : List DictEntry} {ks : List Key} {vs : List V} {us : List (Key × Value)}, KV (ks.zip vs) us → ks.length = vs.length → Pairs (mixKind P w) es us → ReadsAll h (es.map (·.key)) (ks.map keyP) [] ∧ Vals vs (es.map (·.val))
  | es, [], [], us, kv, _, p => by
    cases kv
    cases p
    exact ⟨.nil, .nil⟩
  | es, [], _ :: _, us, kv, l, p => by cases l
  | es, _ :: _, [], us, kv, l, p => by cases l
  | es, k :: ks, v :: vs, us, kv, l, p => by
    rw [List.zip_cons_cons] at kv
    cases kv with
    | cons a b =>
      cases p with
      | cons p1 p2 p3 =>
        rename_i e es'
        obtain ⟨h1, h2⟩ := pairs_reads (h := h) b (by simpa using l) p3
        have a1 := a.1
        dsimp only at a1
        rw [← a1] at p1
        refine ⟨?_, .cons (by show L2.RelV v e.val; rw [p2]; exact a.2) h2⟩
        rcases keyIs_shape (show keyIs k e.key = true from p1) with ⟨i, t, rfl, e2⟩ | ⟨x, t, rfl, e2⟩
        · rw [List.map_cons, e2]
          exact ReadsAll.cons (as := []) (.int i t) h1
        · rw [List.map_cons, e2]
          exact ReadsAll.cons (as := []) (.str x t) h1
mutual
/-- data is read as the library reads it, dicts too -/
theorem Rep.reads (I : Inv X pins σ H s) (c : smB X.K = true) : ∀ (d : D) (v : V) (u : Value), plainR d = true → Rep X.K Z N H d v → RelV v u → ∃ as, Reads s.heap u (toP d) as ∧ sysModules ∉ as
  | .non, _, _, _, h, r => by
    cases (show _ = V.non from h)
    cases (show _ = Value.none from r)
    exact ⟨_, .none, by simp⟩
  | .bl b, _, _, _, h, r => by
    cases (show _ = V.bl b from h)
    cases (show _ = Value.bool b from r)
    exact ⟨_, .bool b, by simp⟩
  | .int i, _, _, _, h, r => by
    cases (show _ = V.int i from h)
    obtain ⟨t, rfl⟩ := (show ∃ t, _ = Value.int i t from r)
    exact ⟨_, .int i t, by simp⟩
  | .str x, _, _, _, h, r => by
    cases (show _ = V.str x from h)
    obtain ⟨t, rfl⟩ := (show ∃ t, _ = Value.str x t from r)
    exact ⟨_, .str x t, by simp⟩
  | .tup ds, _, u, p, h, r => by
    obtain ⟨a, vs, rfl, ra, rs⟩ := h
    cases (show u = Value.ref a from r)
    obtain ⟨its, rv, ⟨o, ho, hc, n, hd⟩, _⟩ := I.tuple (sqt_of ra)
    obtain ⟨as, hr, hn⟩ := Reps.reads I c ds vs its p rs rv
    exact ⟨as, .tuple ho hc hd (by simpa using hr), hn⟩
  | .lst ds, _, u, p, h, r => by
    obtain ⟨a, vs, rfl, na, ra, rs⟩ := h
    cases (show u = Value.ref a from r)
    obtain ⟨its, rv, ⟨o, n, ho, hc, _, hd⟩, _⟩ := I.list (SqL.of ra)
    obtain ⟨as, hr, hn⟩ := Reps.reads I c ds vs its p rs rv
    refine ⟨_, .list ho hc hd (by simpa using hr), fun z => ?_⟩
    rcases List.mem_cons.mp z with z | z
    · exact sm_ne I.kIn c ho hc z.symm
    · exact hn z
  | .dct ks ds, _, u, p, h, r => by
    obtain ⟨a, vs, rfl, na, ra, lk, rs⟩ := h
    cases (show u = Value.ref a from r)
    obtain ⟨p1, p2⟩ := Bool.and_eq_true_iff.mp p
    obtain ⟨z, hs, us, kv, o, es, ep, ho, hx, hd, _, hp, _⟩ := dk_of I.hok ra
    obtain ⟨h1, h2⟩ := pairs_reads (h := s.heap) kv lk hp
    obtain ⟨as, hr, hn⟩ := Reps.reads I c ds vs _ p2 rs h2
    obtain ⟨k1, k2⟩ := toPk_keys (of_decide_eq_true p1)
    refine ⟨_, .dict ho hx.1 hd (by rw [k1]; exact h1) (by rw [k2]; exact hr), fun y => ?_⟩
    rcases List.mem_append.mp y with y | y
    · rcases List.mem_cons.mp y with y | y
      · rw [y] at hs
        simp at hs
      · cases y
    · exact hn y
  | .deck, _, _, p, _, _ => by cases p
  | .ty _, _, _, p, _, _ => by cases p
  | .kt _, _, _, p, _, _ => by cases p
  | .ins _ _ _, _, _, p, _, _ => by cases p
theorem Reps.reads (I : Inv X pins σ H s) (c : smB X.K = true) : ∀ (ds : List D) (vs : List V) (us : List Value), plainRs ds = true → Reps X.K Z N H ds vs → Vals vs us → ∃ as, ReadsAll s.heap us (toPs ds) as ∧ sysModules ∉ as
  | [], _, _, _, h, r => by
    cases h
    cases r
    exact ⟨_, .nil, by simp⟩
  | d :: ds, _, _, p, h, r => by
    obtain ⟨v, w, rfl, h1, h2⟩ := h
    obtain ⟨p1, p2⟩ := Bool.and_eq_true_iff.mp p
    cases r with
    | cons r1 r2 =>
      obtain ⟨as, q1, n1⟩ := Rep.reads I c d v _ p1 h1 r1
      obtain ⟨bs, q2, n2⟩ := Reps.reads I c ds w _ p2 h2 r2
      exact ⟨_, .cons q1 q2, fun z => (List.mem_append.mp z).elim n1 n2⟩
end
end
section
variable {X : Cx} {F : FP} {e : Expr} {es : List Expr} {pos : Pos} {Tas : TDA} {Ta Tb : TDE}
/-! ### repr -/
def showR (d : D) : Prop := plainR d = true ∧ (toP d).showable = true ∧ (toP d).depth ≤ 64 ∧ ((toP d).shown).length ≤ sizeLine
def gReprR : GA := fun xs Q => match xs with
  | [d] => showR d ∧ Q (.str (toP d).shown)
  | _ => False
def rReprR (K : PySem.W.Frag) : List V → Hp → VK → Prop := fun vs H Q => ∃ v d Z N, vs = [v] ∧ Rep K Z N H d v ∧ showR d ∧ Q (.str (toP d).shown) H
theorem cr_reprR (c : smB X.K = true) (hg : X.A.guards = some []) (hu : X.A.units + 80 < cLine) : CallR X (.builtin "repr") (rReprR X.K) := by
  intro pins s σ H vs us Q I r h
  obtain ⟨v, d, Z, N, rfl, rp, ⟨h0, h1, h3, h4⟩, q⟩ := h
  obtain ⟨u, rfl, rv⟩ := vals1 r
  obtain ⟨as, rd, na⟩ := Rep.reads I c d v u h0 rp rv
  generalize toP d = y at *
  cases rd with
  | none => exact PySem.P.repr_of_none ⟨.str _, H, I.tok _, ⟨_, rfl⟩, q⟩
  | bool b => exact PySem.P.repr_of_bool ⟨.str _, H, I.tok _, ⟨_, rfl⟩, q⟩
  | int i t => exact PySem.P.repr_of_int (of_decide_eq_true h1) ⟨.str _, H, I.tok _, ⟨_, rfl⟩, q⟩
  | str x t => exact PySem.P.repr_of_str ⟨.str _, H, I.tok _, ⟨_, rfl⟩, q⟩ h4
  | list e1 e2 e3 e4 =>
    exact repr_of_reads' (h₀ := s.heap) (.list e1 e2 e3 e4) h1 (fun _ => na) hg (by omega) (fun _ _ z => z) (fun h' u tk hk => ⟨.str _, H, I.kept (t' := tk) hk, ⟨_, rfl⟩, q⟩) h4
  | tuple e1 e2 e3 e4 =>
    exact repr_of_reads' (h₀ := s.heap) (.tuple e1 e2 e3 e4) h1 (fun _ => na) hg (by omega) (fun _ _ z => z) (fun h' u tk hk => ⟨.str _, H, I.kept (t' := tk) hk, ⟨_, rfl⟩, q⟩) h4
  | dict e1 e2 e3 e4 e5 =>
    exact repr_of_reads' (h₀ := s.heap) (.dict e1 e2 e3 e4 e5) h1 (fun _ => na) hg (by omega) (fun _ _ z => z) (fun h' u tk hk => ⟨.str _, H, I.kept (t' := tk) hk, ⟨_, rfl⟩, q⟩) h4
theorem cd_reprR : CallD F (rReprR F.K) gReprR := ⟨by
  intro N H vs ds Qd Q n r h k
  unfold gReprR at h
  split at h
  · rename_i d
    obtain ⟨v, r, rfl, h1, h2⟩ := r
    cases h2
    exact ⟨v, d, F.Z, N, rfl, h1, h.1, k _ _ _ Ext.refl rep_str h.2⟩
  · exact h.elim⟩
theorem d_reprR {p : Pos} (hK : F.K = X.K) (c : smB X.K = true) (hgd : X.A.guards = some []) (hu : X.A.units + 80 < cLine) (hg : Gl X "repr") (hm : X.mg "repr" = none) (ha : PA X (e :: es) (tDA F Tas))
    (he : starEach (e :: es) X.env = (false, eval e X.env) :: starEach es X.env := by rfl) (hpl : (backTo pos (starEach es X.env)).any (·.1) = false := by rfl) : PE X (.Call (.Name "repr" p) (e :: es) [] pos) (tD F (dCB gReprR Tas)) := by
  have z := cd_reprR (F := F)
  rw [hK] at z
  exact d_callB z (cr_reprR c hgd hu) hg hm (by decide +kernel) ha (by decide) (by decide) he hpl
/-! ### {}, {k: v} -/
theorem d_dict0 : PE X (.Dict [] [] pos) (tD F (dC (.dct [] []))) := PE.imp pe_dnewK (by
  rintro σ H Q ⟨N, env, Qd, f, hT, k⟩
  exact fun p hp => k _ _ (.dct [] []) (f.n.lay hp) ⟨p, [], rfl, f.n.fresh hp, upd_same, rfl, rfl⟩ hT)
def dDict1 (k : Key) (T : TDE) : TDE := fun ξ env Q => T ξ env fun d => Q (.dct [k] [d])
theorem d_dict1 {ke ve : Expr} {ky : Key} (hk : PE X ke (tC (kV ky))) (hv : PE X ve (tD F Ta)) : PE X (.Dict [some ke] [ve] pos) (tD F (dDict1 ky Ta)) := PE.imp (pe_disp (pps_cons hk hv pps_nil) rfl rfl (fun z => by cases z) (by show 1 ≤ 15; decide)) (by
  rintro σ H Q ⟨N, env, Qd, f, hT, k⟩
  intro p hp
  have np := f.n.fresh hp
  have fp := f.with (o := .dK []) kp_dk hp (f.nb hp)
  refine ⟨_, env, _, fp, hT, fun v H1 d e1 r1 q1 => ?_⟩
  have hp1 : H1 p = some (.dK []) := e1.keep p _ (fun z => np (f.n.z p z)) kp_dk upd_same
  refine ⟨hp1, [(ky, v)], rfl, (by show 1 ≤ 15; decide), ?_⟩
  have nz : ¬ InZ F.Z p := fun z => np (f.n.z p z)
  have ee : Ext F.Z H (upd H1 p (.dK (mergeK [] [(ky, v)]))) := by
    have e0 := (f.n.lay (o := .dK []) hp).trans e1
    refine ⟨fun q o n kp h => ?_, fun dk => ⟨fun a l ez => ?_, fun q hq => tab_upd hp1 kp_dk (fun _ h => by cases h) ((e0.deck dk).2 q hq)⟩⟩
    · rw [upd_ne (ne_of_none h hp)]
      exact e0.keep q o n kp h
    · obtain ⟨xs, m, c, k1, k2, k3⟩ := (e0.deck dk).1 a l ez
      exact ⟨xs, m, c, by rw [upd_ne (fun z => nz (by rw [← z]; exact ⟨a, l, ez, .inl rfl⟩))]; exact k1, by rw [upd_ne (fun z => nz (by rw [← z]; exact ⟨a, l, ez, .inr rfl⟩))]; exact k2, k3⟩
  refine k _ _ (.dct [ky] [d]) ee ⟨p, [v], rfl, np, ?_, rfl, v, [], rfl, ?_, rfl⟩ q1
  · rw [upd_same]
    rfl
  · refine Rep.mono (fun q o n kp h => ⟨?_, fun z => n (.inl z)⟩) d v r1
    rw [upd_ne (fun z => n (.inr z))]
    exact h)
/-! ### x[::-1] -/
section
variable {prog : Program} {w : World} {A : Around} {E : Value → Shared → Prop} {s : Shared}
theorem adjust_rev (n : Nat) : Builtin.Slice.sliceAdjust none none (-1) (n : Int) = ((n : Int) - 1, -1) := by
  unfold Builtin.Slice.sliceAdjust
  rfl
theorem places_rev (n : Nat) : Builtin.Slice.slicePlaces ((n : Int) - 1) (-1) (-1) = n := by
  unfold Builtin.Slice.slicePlaces
  rw [if_neg (by decide), show (- -1 : Int) = 1 by decide, Int.ediv_one]
  split <;> omega
theorem applied_rev {sl : Addr} {u : Tok} {n : Nat} {Q : Int × Int × Nat → Shared → Prop} (hs : s.heap.IsSliceOf sl .none .none (.int (-1) u)) (h : Q ((n : Int) - 1, -1, n) s) : wpAny (model prog w) A (Builtin.Slice.sliceApplied (.ref sl) (pure (n : Int))) Q E s := by
  obtain ⟨os, hos, hcs, hds⟩ := id hs
  unfold Builtin.Slice.sliceApplied Builtin.Slice.sliceFields
  refine wpAny_bind (wpAny_bind (wpAny_field hos hds (x := .none) rfl (wpAny_bind (wpAny_field hos hds (x := .none) rfl (wpAny_bind (wpAny_field hos hds (x := .int (-1) u) rfl (wpAny_pure ?_)))))))
  refine wpAny_bind (slicePart_int ?_)
  show wpAny _ _ (if ((-1 : Int) == 0) = true then _ else _) _ _ s
  rw [if_neg (by decide)]
  refine wpAny_bind (slicePart_none (wpAny_bind (slicePart_none (wpAny_bind (wpAny_pure ?_)))))
  show wpAny _ _ (match Builtin.Slice.sliceAdjust none none (-1) (n : Int) with | (lo, hi) => pure (lo, (-1 : Int), Builtin.Slice.slicePlaces lo hi (-1))) _ _ s
  rw [adjust_rev]
  show wpAny _ _ (pure ((n : Int) - 1, (-1 : Int), Builtin.Slice.slicePlaces ((n : Int) - 1) (-1) (-1))) _ _ s
  rw [places_rev]
  exact wpAny_pure h
theorem filterMap_on {α β : Type} {f g : α → Option β} : ∀ {l : List α}, (∀ m ∈ l, f m = g m) → l.filterMap f = l.filterMap g
  | [], _ => rfl
  | a :: l, h => by
    rw [List.filterMap_cons, List.filterMap_cons, h a List.mem_cons_self, filterMap_on fun m hm => h m (List.mem_cons_of_mem _ hm)]
theorem pick_rev (xs : Array Value) : ((List.range xs.size).filterMap fun (m : Nat) => xs[((xs.size : Int) - 1 + (m : Int) * (-1)).toNat]?).toArray = xs.toList.reverse.toArray := by
  congr 1
  have e : ((List.range xs.size).filterMap fun (m : Nat) => xs[((xs.size : Int) - 1 + (m : Int) * (-1)).toNat]?) = ((List.range xs.size).map fun m => xs.size - 1 - m).filterMap fun m => xs[m]? := by
    rw [List.filterMap_map]
    refine filterMap_on fun m hm => ?_
    have := List.mem_range.mp hm
    have e2 : ((xs.size : Int) - 1 + (m : Int) * (-1)).toNat = xs.size - 1 - m := by omega
    rw [e2]
    rfl
  rw [e, PySem.W.krv_range, List.filterMap_reverse, PySem.W.krv_all]
theorem getItem_tup_rev {t sl : Addr} {items : Array Value} {u : Tok} {Q : Value → Shared → Prop} (ht : IsTup s.heap t items) (hs : s.heap.IsSliceOf sl .none .none (.int (-1) u))
    (h : Q (.ref s.heap.objs.size) { s with heap := s.heap.push { cls := .type "tuple", data := .seq items.toList.reverse.toArray } }) (hsz : items.size ≤ sizeLine) : wpAny (model prog w) A (getItem (.ref t) (.ref sl)) Q E s := by
  have fits : sizeOk (.seq items.toList.reverse.toArray) := by
    show items.toList.reverse.toArray.size ≤ sizeLine
    simpa using hsz
  have hTs : s.TypeIs (.ref sl) "slice" := let ⟨os, hos, hcs, _⟩ := hs; ⟨os, hos, hcs⟩
  unfold getItem
  try with_reducible refine wpAny_holding ?_
  first | refine wpAny_bind (wpAny_pure ?_) | skip
  refine wpAny_bind (wpAny_sequenceKey ht.typeIs (by decide) ?_)
  refine wpAny_bind (wpAny_callSpecial?_slot (name := Str.ofString "__getitem__") ht.typeIs PyProof.Rows.slot_tuple_getitem (wpAny_call_entry PyProof.Rows.slot_tuple_getitem ht.typeIs entry_tuple_getitem ?_ (args_tuple_getitem _ _)))
  show wpAny _ _ (Builtin.Tuple.tupleItemsOf (.ref t) >>= _) _ _ s
  refine wpAny_bind (tupleItemsOf_ ht (wpAny_bind (wpAny_typeOf hTs ?_)))
  rw [if_pos (by decide)]
  refine wpAny_bind (applied_rev hs ?_)
  have no : ¬ ((((items.size : Int) - 1 == 0) && ((-1 : Int) == 1) && (items.size == items.size)) = true) := by
    intro q
    rw [Bool.and_eq_true, Bool.and_eq_true] at q
    exact absurd q.1.2 (by decide)
  show wpAny _ _ (if (((items.size : Int) - 1 == 0) && ((-1 : Int) == 1) && (items.size == items.size)) = true then _ else _) _ _ s
  rw [if_neg no, pick_rev]
  first
    | exact wpAny_bind (m := Builtin.Tuple.tupleExact _) (wpAny_newObj_type (wpAny_pure ⟨_, rfl, wpAny_pure h⟩) fits)
    | exact wpAny_bind (m := Builtin.Tuple.tupleExact _) (wpAny_newObj_type (wpAny_bind (wpAny_pure (wpAny_pure ⟨_, rfl, wpAny_pure h⟩))) fits)
    | exact wpAny_bind (wpAny_bind (m := Builtin.Tuple.tupleExact _) (wpAny_newObj_type (wpAny_pure (wpAny_pure ⟨_, rfl, wpAny_pure h⟩)) fits))
    | exact wpAny_bind (wpAny_bind (m := Builtin.Tuple.tupleExact _) (wpAny_newObj_type (wpAny_pure ⟨_, rfl, wpAny_pure h⟩) fits))
end
def tRevT (K : PySem.W.Frag) (te : TE) : TE := fun σ H Q => te σ H fun x H1 => ∃ a xs, x = .ref a ∧ SqT K H1 a xs ∧ ∀ p, H1 p = none → Q (.ref p) (upd H1 p (.tup xs.reverse))
theorem pe_revT {te : TE} {k : Nat} {p1 p2 p3 : Pos} (he : PE X e te) : PE X (.Subscript e (.Slice none none (some (.UnaryOp .USub (.Constant (.int 1) k p1) p2)) p3) pos) (tRevT X.K te) := by
  refine ⟨fun pins s σ H Q I h => ?_⟩
  refine Subscript_ (thn (he.run pins s σ H _ I h) fun v s1 ⟨x, H1, I1, r1, a, xs, ex, hx, q⟩ => ?_)
  subst ex
  cases r1
  have hst : PO X (some (.UnaryOp .USub (.Constant (.int 1) k p1) p2)) (tPart (tUn (rU fun i => .int (-i)) (tC (.int 1)))) := po_some (pe_un un_neg pe_int)
  refine wpAny_Slice (thn (po_none.run pins s1 σ H1 (fun o H2 => o = none ∧ H2 = H1) I1 ⟨rfl, rfl⟩) fun vl s2 ⟨l, H2, I2, pl, el, e2⟩ => thn (po_none.run pins s2 σ H2 (fun o H3 => o = none ∧ H3 = H2) I2 ⟨rfl, rfl⟩) fun vu s3 ⟨u, H3, I3, pu, eu, e3⟩ =>
    thn (hst.run pins s3 σ H3 (fun o H4 => o = some (-1) ∧ H4 = H3) I3 ⟨1, rfl, -1, rfl, rfl, rfl⟩) fun vs s4 ⟨o, H4, I4, ps, eo, e4⟩ => ?_)
  subst el e2 eu e3 eo e4
  cases pl
  cases pu
  obtain ⟨t, rfl⟩ : ∃ t, vs = Value.int (-1) t := by
    cases ps with
    | int i t => exact ⟨t, rfl⟩
  have I5 : L2.Inv X pins σ H4 { s4 with heap := s4.heap.push { cls := .type "slice", data := .fields #[.none, .none, .int (-1) t] } } := I4.kept (t' := s4.toks) fun b ob q => Heap.get?_push_of_some _ q
  obtain ⟨its, r, ht, hz⟩ := I5.tuple hx
  have hlen := r.length
  show wpAny (model X.prog X.w) X.A (subscriptTail e (.Slice none none (some (.UnaryOp .USub (.Constant (.int 1) k p1) p2)) p3) (.ref a) (.ref s4.heap.objs.size)) (EP X pins σ Q) X.xe { s4 with heap := s4.heap.push { cls := .type "slice", data := .fields #[.none, .none, .int (-1) t] } }
  refine tail_any (ops := [.ref a, .ref s4.heap.objs.size]) ht.typeIs (PyProof.Rows.slot_tuple_getitem.lookup) ?_ (by with_unfolding_all rfl)
  refine getItem_tup_rev ht (Heap.IsSliceOf.new _ _ _ _) ?_ (by rw [List.size_toArray]; omega)
  refine ⟨.ref _, _, I5.laid (t' := s4.toks) (o := .tup xs.reverse) (fun b ob q => Heap.get?_push_of_some _ q) (Nat.le_refl _) ?_, rfl, q _ (I5.hok.fresh (Nat.le_refl _))⟩
  exact ⟨by rw [List.length_reverse]; exact hz, its.reverse, r.reverse, _, Heap.get?_push_size _ rfl, rfl, 0, by simp⟩
def gRev : G1 := fun x Q => match x with
  | .tup ds => Q (.tup ds.reverse)
  | _ => False
theorem Reps.rev {K : PySem.W.Frag} {Z : Zn} {N : Addr → Prop} {H : Hp} : ∀ {ds : List D} {vs : List V}, Reps K Z N H ds vs → Reps K Z N H ds.reverse vs.reverse
  | [], _, h => by cases h; rfl
  | d :: ds, _, ⟨v, r, e, h1, h2⟩ => by
    subst e
    rw [List.reverse_cons, List.reverse_cons]
    exact (Reps.rev h2).snoc h1
/-- t[::-1] -/
theorem d_rev {k : Nat} {p1 p2 p3 : Pos} (hK : F.K = X.K) (he : PE X e (tD F Ta)) : PE X (.Subscript e (.Slice none none (some (.UnaryOp .USub (.Constant (.int 1) k p1) p2)) p3) pos) (tD F (dUn gRev Ta)) := PE.imp (pe_revT he) (by
  rintro σ H Q ⟨N, env, Qd, f, hT, kk⟩
  refine ⟨N, env, _, f, hT, fun x H1 d e1 r1 q1 => ?_⟩
  cases d <;> first | exact q1.elim | skip
  rename_i ds
  obtain ⟨a, vs, rfl, ra, rs⟩ := r1
  have n1 := (f.ext' e1).n
  exact ⟨a, vs, rfl, by rw [← hK]; exact sqt_of ra, fun p hp => kk _ _ (.tup ds.reverse) (e1.trans (n1.lay hp)) (rep_newT n1 hp rs.rev) q1⟩)
end
end DL
set_option Elab.async false
set_option linter.all false
set_option maxRecDepth 100000
set_option maxHeartbeats 2000000
/-! a lambda handed to a def that calls it, over data -/
namespace DL
open PySem PySem.Spec L2 LamX
open PyProof.Rows hiding St
theorem PE.exP {X : Cx} {e : Expr} {α : Sort _} {t : α → TE} (h : ∀ i, PE X e (t i)) : PE X e (fun σ H Q => ∃ i, t i σ H Q) := ⟨fun pins s σ H Q I ⟨i, q⟩ => (h i).run pins s σ H Q I q⟩
theorem PE.andP {X : Cx} {e : Expr} {p : Prop} {t : TE} (h : p → PE X e t) : PE X e (fun σ H Q => p ∧ t σ H Q) := ⟨fun pins s σ H Q I ⟨i, q⟩ => (h i).run pins s σ H Q I q⟩
theorem takes_lam {X : Cx} {A : Around} {outer : List Env} {s : Shared} {H : Hp} {E : XK} {scope : Scope} {f c' : Addr} : Takes (lamCx X A outer s H E scope f c') (fun c od _ H' => E c od H') := takes_of rfl rfl rfl rfl
/-- the maker's names, seen from the lambda: no list of the maker's own -/
def hide (env : SE) : SE := env.map fun s => match s with
  | .own _ => .un
  | s => s
theorem hide_get {env : SE} {i : Nat} {s : Slot} (h : (hide env)[i]? = some s) : s = .un ∨ (env[i]? = some s ∧ ∀ xs, s ≠ .own xs) := by
  unfold hide at h
  rw [List.getElem?_map] at h
  cases q : env[i]? with
  | none => rw [q] at h; cases h
  | some u =>
    rw [q] at h
    cases u with
    | own xs => cases h; exact .inl rfl
    | un => cases h; exact .inl rfl
    | d x => cases h; exact .inr ⟨rfl, fun xs z => by cases z⟩
    | raw v => cases h; exact .inr ⟨rfl, fun xs z => by cases z⟩
def dHole (v : V) (Tl : TDE) (env : SE) : TDE := fun ξ env' Q => env'[0]? = some (.raw v) ∧ Tl (fun x _ => ξ x env') (hide env) Q
def dLam (n : Nat) (Tt : TDE → TDS) (Tl : TDE) : TDE := fun _ env Q => ∀ v, Tt (dHole v Tl env) (fun _ _ => False) { nx := fun _ => Q .non, rt := Q } (.raw v :: List.replicate (n - 1) .un)
section
variable {X : Cx} {pins : List (Addr × Obj)} {σ : L2.St} {H : Hp} {s : Shared}
/-- the call of what was handed over -/
theorem pe_hole {Eg : XK} {Ng : List Str} {qg : Str} {sg : Scope} {g f c' : Addr} {cdg pm ctv : Value} {params : Arguments} {body : Expr} {scope : Scope} {k i : Nat} {a : Str} {pn : List (Addr × Obj)} {xe : Value → Shared → Prop} {W : WX} {tb : XK → TE} {p1 p2 : Pos} {CXg : CXT}
    (J : Inv X pins σ H s) (L : LamS X.env.scope scope) (ob : s.heap.get? f = some (PySem.W.kla_obj "<lambda>" (X.env.qual ++ "<lambda>") params body scope (cloFrom X.env.cells scope.names []) pm c' ctv)) (fr1 : H f = none) (fr2 : f ∉ frs X.stack)
    (bnd : bindArgs (PySem.W.kla_fn "<lambda>" (X.env.qual ++ "<lambda>") params body scope (cloFrom X.env.cells scope.names []) pm (.ref c') ctv) ⟨[], []⟩ = pure []) (room : RoomG (k + 1) (X.A.deeper (envOfC qg sg s.heap.objs.size g cdg)))
    (run : ∀ (A : Around) (outer : List Env) (s : Shared) (H : Hp) (E : XK), RoomG k (A.deeper (lamEnv X scope s.heap.objs.size f c')) → PE (lamCx X A outer s H E scope f c') body (tb E))
    (tk : Takes ((cxOf CXg X.prog X.w X.K X.mg X.base Ng qg sg g cdg X.A X.stack s H Eg).tr pn xe) W) (at_ : Ng[i]? = some a) (vis : Vis sg a) (nd : (a == ("__debug__" : Str)) = false) (nc : (a == ("__classdict__" : Str)) = false) :
    PE ((cxOf CXg X.prog X.w X.K X.mg X.base Ng qg sg g cdg X.A X.stack s H Eg).tr pn xe) (.Call (.Name a p1) [] [] p2)
      (fun σZ HZ Q => σZ[i]? = some (some (.ref f)) ∧ HZ c' = some (CodeO c' (X.env.qual ++ "<lambda>")) ∧ tb (WE W σZ) σ HZ Q) := by
  constructor
  rintro pinsZ sZ σZ HZ Q IZ ⟨atf, code, wish⟩
  refine wpAny_Call_Name_kw (thn ((pe_var (pos := p1) (i := i) at_ vis nd nc).run pinsZ sZ σZ HZ (fun v H1 => v = .ref f ∧ H1 = HZ) IZ ⟨.ref f, atf, rfl, rfl⟩) ?_)
  rintro u s1 ⟨v, H1, I1, r1, rfl, rfl⟩
  obtain rfl : u = Value.ref f := r1
  have still := I1.base.keep f _ ob fr1 fr2 (by intro z; cases z)
  refine PySem.W.callWith_F0 ⟨_, _, _, _, still⟩ ?_
  have grown : Un (frs X.stack) [] H H1 s.heap s1.heap := I1.base
  obtain ⟨⟨oc, vs, t, co1, co2, co3⟩, _, _⟩ := I1.hok c' _ code
  have ran : codeAny (model X.prog X.w) (X.A.deeper (envOfC qg sg s.heap.objs.size g cdg)) (.call (.ref f) ⟨[], []⟩) (CR (L2.CX X.prog X.w) (envOfC qg sg s.heap.objs.size g cdg :: X.stack) X.prog X.w H1 s1 Q (WE W σZ)) s1 := by
    refine PySem.W.kla_callFunE room.r.depth still rfl L.co L.gen rfl ⟨c', oc, vs, t, rfl, co1, co2, co3⟩ ?_
    rw [bnd]
    refine wpAny_pure (wpAny_newFunctionEnv (fun y hy => (L.own y hy).2) (by intro y hy; cases hy) ?_ L.kind)
    intro h₁ hns more
    refine ⟨I1.nolimit.fresh _ more, ?_⟩
    show codeAny _ _ (.expr body (lamEnv X scope s1.heap.objs.size f c')) _ _
    have kept : ∀ b o, s1.heap.get? b = some o → h₁.get? b = some o := fun b o e => more.extBut b o (Nat.ne_of_lt (Heap.lt_size e)) (Heap.get?_push_of_some _ e)
    have J2 : Inv (lamCx X (X.A.deeper (envOfC qg sg s.heap.objs.size g cdg)) (envOfC qg sg s.heap.objs.size g cdg :: X.stack) s1 H1 (WE W σZ) scope f c') [] σ H1 { s1 with heap := h₁, toks := s1.toks + 0 } :=
      lam_start2 J L I1.env0 room.r.hd grown hns kept
    refine PySem.W.kla_codeExpr (wpAny_mono ((run _ _ s1 H1 (WE W σZ) ⟨room.r.deeper _, guards_deeper room.g⟩).run [] _ _ H1 Q J2 wish) ?_ fun e s' z => z)
    rintro v s' ⟨v', H', J', rv, q⟩
    exact ⟨v', H', J'.os, J'.bare, J'.base, J'.hok, rv, q⟩
  have pas := passAt tk σZ
  refine wpAny_call (codeAny_mono ran ?_)
  rintro (e | fl) s' z
  · exact pas pinsZ H1 s1 e s' I1 z
  · cases fl with
    | ret u => exact I1.after z
    | next => exact z
    | brk => exact z
    | cont => exact z
end
section
variable {X : Cx} {F : FP}
theorem codeO_kp {c : Addr} {q : Str} : Kp (CodeO c q) := fun ps => codeO_ne ps
/-- f(lambda: body), where f calls it and lets nothing out -/
theorem d_lam {x a : Str} {g c P : Addr} {k : Nat} {pg : Arguments} {bg : List Stmt} {sg : Scope} {fdg : FuncData} {Ng : List Str} {params : Arguments} {body : Expr} {scope : Scope} {Tl : TDE} {Tt : TDE → TDS} {p lpos pos : Pos}
    (hK : F.K = X.K) (glo : Gl X x) (hm : X.mg x = some (.ref g)) (hk : PySem.W.keepIn X.K (.ref g) = true) (Fg : FunD X.K x x pg bg sg [] [] g fdg) (bb : Binds X.K fdg [a] []) (Sg : FnScope Ng [a] sg) (at_ : Ng[0]? = some a) (vis : Vis sg a)
    (told : ∀ (cdv : Value) (s : Shared) (H : Hp) (F2 : FP) (Th : TDE), F2.K = X.K → F2.ex = (fun _ _ => False) → RoomG (k + 1) (X.A.deeper (envOfC x sg s.heap.objs.size g cdv)) →
      (∀ (W : WX) (pn : List (Addr × Obj)) (xe : Value → Shared → Prop) (F' : FP) (p1 p2 : Pos), Takes ((cxOf CX0 X.prog X.w X.K X.mg X.base Ng x sg g cdv X.A X.stack s H E0).tr pn xe) W → Sub F2 F' → WOk F' W →
        PE ((cxOf CX0 X.prog X.w X.K X.mg X.base Ng x sg g cdv X.A X.stack s H E0).tr pn xe) (.Call (.Name a p1) [] [] p2) (tD F' Th)) →
      PSs (cxOf CX0 X.prog X.w X.K X.mg X.base Ng x sg g cdv X.A X.stack s H E0).nox bg (sD F2 (Tt Th)))
    (TB : TabB X.base X.mg c P) (code : X.env.code = .ref c) (mem : (P, X.env.qual ++ "<lambda>") ∈ tabsOf X.K) (uni : ∀ p ∈ tabsOf X.K, p.1 = P → p.2 = X.env.qual ++ "<lambda>") (room : RoomG (k + 2) X.A) (L : LamS X.env.scope scope) (defs : defaultsOf params X.env = ([], []))
    (bnd : ∀ (q : Str) (cl : List (Str × Addr)) (pm cv ctv : Value), bindArgs (PySem.W.kla_fn "<lambda>" q params body scope cl pm cv ctv) ⟨[], []⟩ = pure [])
    (run : ∀ (A : Around) (outer : List Env) (s : Shared) (H : Hp) (E : XK) (f c' : Addr) (F' : FP), F'.K = X.K → WOk F' (fun c od _ H' => E c od H') → RoomG k (A.deeper (lamEnv X scope s.heap.objs.size f c')) → PE (lamCx X A outer s H E scope f c') body (tD F' Tl))
    (ndx : (x == ("__debug__" : Str)) = false := by decide) (nd : (a == ("__debug__" : Str)) = false := by decide) (nc : (a == ("__classdict__" : Str)) = false := by decide) :
    PE X (.Call (.Name x p) [.Lambda params body scope lpos] [] pos) (tD F (dLam Ng.length Tt Tl)) := by
  constructor
  rintro pins s σ H Q I ⟨N, env, Qd, fk, hT, kk⟩
  refine wpAny_Call_Name_kw (ld_glob I glo hm (PySem.W.callWith_K (h₀ := X.base) I.ok.mod.kin hk ?_ (by rfl) (by rfl)) ndx)
  show wpAny _ _ (spliced ((false, eval (.Lambda params body scope lpos) X.env) :: backTo pos (starEach [] X.env))) _ _ s
  have tabs : Tabs (tabsOf X.K) H := by
    have z := fk.n.deck.2
    rwa [fk.n.tb, hK] at z
  refine Calls.spliced_cons (lam_make2 I TB code mem uni tabs defs (L.has I.ok) ?_)
  intro f c' pm' ctv H1 s' I1 eN T1 ob fr1 fr2 hco
  refine Calls.spliced_nil ⟨I1.kIn, ?_⟩
  have e : Ext F.Z H H1 := ⟨fun q o _ kp h => eN q o h kp, fun dk => ⟨fun b l z => by
    obtain ⟨xs, m, n, h1, h2, h3⟩ := dk.1 b l z
    exact ⟨xs, m, n, eN _ _ h1 kp_dk, eN _ _ h2 kp_lst, h3⟩, by rw [fk.n.tb, hK]; exact T1⟩⟩
  have f1 := fk.ext' e
  obtain ⟨oc, od, dV, kV, doc, pm, an, cdv, ct, osl, efd, lk, hcd, _, _⟩ := Fg.ex
  subst efd
  have ran : codeAny (model X.prog X.w) X.A (.call (.ref g) ⟨[.ref f], []⟩) (CR CX0 X.stack X.prog X.w H1 s' Q E0) s' := by
    refine run_ofS (N := Ng) (ps := [a]) (us := [.ref f]) (vs := [.ref f]) lk hcd Sg room.r I1.env0 (bb s' [.ref f] I1.kIn rfl) (.cons rfl .nil) rfl fun r2 => ?_
    have room2 : RoomG (k + 1) (X.A.deeper (envOfC x sg s'.heap.objs.size g cdv)) := ⟨r2, guards_deeper room.g⟩
    refine ⟨_, (told cdv s' H1 ⟨F.K, F.Z, N, H1, fun _ _ => False, N, H1⟩ (dHole (.ref f) Tl env) hK rfl room2 ?_).nox, N, _, _, ⟨⟨f1.n.deck, .refl, fun _ z => z, f1.n.z, f1.n.all, fun _ h n => (n h).elim, .refl, f1.n.tb⟩, ?_, ?_, ?_⟩, hT (.ref f), ?_⟩
    · intro W pn xe F' p1 p2 tk sub wo
      have hk' : F'.K = X.K := sub.k.trans hK
      refine PE.imp (pe_hole (i := 0) (tb := fun E σ H Q => ∃ Fe : FP, (Fe.K = X.K ∧ WOk Fe (fun c od _ H' => E c od H')) ∧ tD Fe Tl σ H Q) I1 L ob fr1 fr2 (bnd _ _ _ _ _) room2 (fun A outer s H E r3 => PE.exP fun Fe => PE.andP fun z => run A outer s H E f c' Fe z.1 z.2 r3) tk at_ vis nd nc) ?_
      rintro σZ HZ Q2 ⟨N', env', Qd', f', ⟨h0, hl⟩, k'⟩
      refine ⟨f'.slot 0 _ h0, ?_, ⟨F'.K, F'.Z, N', HZ, fun x _ => F'.ex x env', N', HZ⟩, ⟨hk', ?_⟩, N', hide env, Qd', ⟨⟨f'.n.deck, .refl, fun _ z => z, f'.n.z, f'.n.all, fun _ h n => (n h).elim, .refl, f'.n.tb⟩, ?_, ?_, ?_⟩, hl, k'⟩
      · have z1 := f'.n.ext
        rw [sub.h, sub.z] at z1
        refine z1.keep c' _ ?_ codeO_kp hco
        rintro ⟨b, l, z, q⟩
        obtain ⟨xs, m, n, h1, h2, h3⟩ := f1.n.deck.1 b l z
        unfold CodeO at hco
        rcases q with q | q <;> rw [q] at hco
        · rw [h1] at hco; cases hco
        · rw [h2] at hco; cases hco
      · intro N3 σ3 H3 env3 y cl od f3 xr hx
        exact wo N' σZ H3 env' y cl od (f'.ext' f3.n.ext) (xr.less f3.n.sub) hx
      · rw [show (hide env).length = env.length from List.length_map _]
        exact fk.len
      · intro i sl hs
        rcases hide_get hs with rfl | ⟨h4, h5⟩
        · trivial
        · have z := f1.slot i sl h4
          have ev : Evo N H1 N' HZ := Evo.trans sub.g f'.n.gr
          cases sl with
          | un => trivial
          | own xs => exact (h5 xs rfl).elim
          | raw v => exact z
          | d y =>
            obtain ⟨v, z1, z2⟩ := z
            refine ⟨v, z1, ?_⟩
            show Rep F'.K F'.Z N' HZ y v
            rw [sub.k, sub.z]
            exact Rep.mono ev y v z2
      · intro i j q xs ys _ h4
        rcases hide_get h4 with z | ⟨_, z⟩
        · cases z
        · exact (z xs rfl).elim
    · obtain ⟨n, hn⟩ : ∃ n, Ng.length = n + 1 := ⟨Ng.length - 1, by have := (List.getElem?_eq_some_iff.mp at_).1; omega⟩
      simp [L2.start, hn]
    · intro i sl hs
      match i, hs with
      | 0, hs =>
        cases hs
        rfl
      | i + 1, hs =>
        have z : sl = .un := (List.mem_replicate.mp (List.mem_of_getElem? (show (List.replicate (Ng.length - 1) Slot.un)[i]? = some sl from hs))).2
        subst z
        trivial
    · intro i j q xs ys _ h4
      match i, h4 with
      | 0, h4 => cases h4
      | i + 1, h4 => cases (List.mem_replicate.mp (List.mem_of_getElem? (show (List.replicate (Ng.length - 1) Slot.un)[i]? = some (.own xs) from h4))).2
    · exact ⟨fun N' σ' H' env' f' _ q => kk _ _ _ (e.trans f'.n.ext) rep_non q, fun v H' d e' r' q => kk v H' d (e.trans e') r' q, fun _ _ _ _ _ _ q => q.elim, fun _ _ _ _ _ _ q => q.elim⟩
  refine wpAny_call (codeAny_mono ran ?_)
  rintro (er | fl) s2 z
  · exact (show False from z).elim
  · cases fl with
    | ret u => exact I1.after z
    | next => exact z
    | brk => exact z
    | cont => exact z
end
section
variable {P : Program} {w : World} {K : PySem.W.Frag} {mg : Str → Option Value} {base : Heap} {k : Nat} {f : Addr} {fd : FuncData} {N ps : List Str}
/-- a def that lets nothing out and makes lambdas: its code object is told -/
theorem fng_dataC {x qual n : Str} {params : Arguments} {body : List Stmt} {scope : Scope} {dvs : List V} {kws : List (Str × V)} {T : TDS} (Fd : FunD K x qual params body scope dvs kws f fd) (S : FnScope N ps scope) (ef : f = He.fAd K (n, none))
    (hb : ∀ (cdv : Value) (A : Around) (outer : List Env) (s : Shared) (H : Hp) (E : XK) (F : FP), F.K = K → F.ex = (fun _ _ => False) → RoomG k (A.deeper (envOfC qual scope s.heap.objs.size f cdv)) → cdv = .ref (He.cT K (n, none)).1 →
      PSs (cxOf CX0 P w K mg base N qual scope f cdv A outer s H E).nox body (sD F T)) : FnG P w K mg base CX0 (k + 1) f fd ps (spD K ps.length fun _ ds Q => tfOf N.length T (fun _ => False) ds Q) := by
  refine fng_ofC Fd S ?_ ?_
  · rintro vs H Q E ⟨Z, B, ds, Qd, Ed, b, r, hl, _⟩
    rw [← r.length, hl]
  rintro cdv A outer s H vs Q E room ⟨hcd, hcv⟩ ⟨Z, B, ds, Qd, Ed, b, r, hl, hT, hq, _⟩
  have key : cdv = .ref (He.cT K (n, none)).1 := by
    obtain ⟨c, rfl⟩ := He.codeIn_ref hcd
    obtain ⟨oc, od, dV, kV, doc, pm, an, cdv', ct, osl, efd, lk, _, _, _⟩ := Fd.ex
    subst ef
    rw [show (He.cT K (n, none)).1 = He.codeOf K (n, none) from rfl, He.codeOf_eq (p := (n, none)) lk hcv]
  refine ⟨_, (hb cdv A outer s H E ⟨K, Z, B, H, fun _ _ => False, B, H⟩ rfl rfl room key).nox, ?_⟩
  exact ⟨B, _, _, start_ok b r, hT, ⟨fun N' σ' H' env' f' _ q => hq _ _ _ f'.n.ext rep_non q, fun v H' d e r' q => hq v H' d e r' q, fun _ _ _ _ _ _ q => q.elim, fun _ _ _ _ _ _ q => q.elim⟩⟩
end
section
variable {X : Cx} {F : FP} {a e elt iter : Expr} {ifs : List Expr} {scope : Scope} {own : List (Str × Nat)} {pos p pos' spos py : Pos} {tg : Expr} {Ta : TDE} {Tas : TDA} {tt : TDT} {te : TDE} {i j : Nat} {y : Str}
theorem setLc_imp {T : TDE} {ta : TE} (h : ∀ σ H Q, tD F T σ H Q → ta σ H Q) : ∀ De σ H, sD F (dAsg T (dgName i)) De σ H → tAsg ta (gName i) De σ H := by
  rintro De σ H ⟨N, env, Dd, f, hT, ok⟩
  exact h _ _ _ ⟨N, env, _, f, hT, fun v H' d e1 r q => ok.nx _ _ _ _ ((f.ext' e1).set i r) (.of f.n e1) q⟩
/-- y = [.. for .. in range(n)], on one line, y no cell -/
theorem ds_setLcR (hK : F.K = X.K) (hc : X.calm = true) (hN : X.N.Nodup) (hgl : Gl X "range") (hm : X.mg "range" = none) (ha : PA X [a] (tDA F Tas)) (ok : BlkOk X.N X.env.scope scope own) (hv : own.map (·.2) = [j]) (hy : X.N[i]? = some y) (hyl : X.env.scope.names.lookup y = some .local)
    (hsw : swapsWith (.ListComp elt [⟨tg, .Call (.Name "range" p) [a] [] pos', ifs, 0⟩] scope pos) (some (.Name y py)) spos.line X.env = pure true)
    (hg : ∀ (s : Shared) (H : Hp) (C : Addr) (cl : List (Str × Addr)) (fp : List Addr), PG (X.blk s H scope (compEnvC scope cl C X.env) fp) tg (gName j)) (ht : ∀ (s : Shared) (H : Hp) (C : Addr) (cl : List (Str × Addr)) (fp : List Addr), PTs (X.blk s H scope (compEnvC scope cl C X.env) fp) ifs (tDT F.calm tt))
    (he : ∀ (s : Shared) (H : Hp) (C : Addr) (cl : List (Str × Addr)) (fp : List Addr), PE (X.blk s H scope (compEnvC scope cl C X.env) fp) elt (tD F.calm te)) (hsa : starEach [a] X.env = [(false, eval a X.env)] := by rfl) (hs : ∀ x, foldedSetIterable (.Call (.Name "range" p) [a] [] pos') X.env x = pure x := by intro _; rfl) :
    PS X (.Assign [.Name y py] (.ListComp elt [⟨tg, .Call (.Name "range" p) [a] [] pos', ifs, 0⟩] scope pos) spos) (sD F (dAsg (dLcR Tas j tt te) (dgName i))) := by
  have z := ps_setLc hc hN hy hyl hsw (pi_range1 hgl hm ha hsa) ok hg ht he hs
  rw [hv] at z
  exact PS.imp z (setLc_imp lcR_imp)
theorem ds_setLcL (hK : F.K = X.K) (hc : X.calm = true) (hN : X.N.Nodup) (hi : PE X iter (tD F Ta)) (ok : BlkOk X.N X.env.scope scope own) (hv : own.map (·.2) = [j]) (hy : X.N[i]? = some y) (hyl : X.env.scope.names.lookup y = some .local)
    (hsw : swapsWith (.ListComp elt [⟨tg, iter, ifs, 0⟩] scope pos) (some (.Name y py)) spos.line X.env = pure true)
    (hg : ∀ (s : Shared) (H : Hp) (C : Addr) (cl : List (Str × Addr)) (fp : List Addr), PG (X.blk s H scope (compEnvC scope cl C X.env) fp) tg (gName j)) (ht : ∀ (s : Shared) (H : Hp) (C : Addr) (cl : List (Str × Addr)) (fp : List Addr), PTs (X.blk s H scope (compEnvC scope cl C X.env) fp) ifs (tDT F.calm tt))
    (he : ∀ (s : Shared) (H : Hp) (C : Addr) (cl : List (Str × Addr)) (fp : List Addr), PE (X.blk s H scope (compEnvC scope cl C X.env) fp) elt (tD F.calm te)) (hs : ∀ x, foldedSetIterable iter X.env x = pure x := by intro _; rfl) :
    PS X (.Assign [.Name y py] (.ListComp elt [⟨tg, iter, ifs, 0⟩] scope pos) spos) (sD F (dAsg (dLc Ta j tt te) (dgName i))) := by
  have z := ps_setLc hc hN hy hyl hsw (pi_list hi) ok hg ht he hs
  rw [hv] at z
  exact PS.imp z (setLc_imp (by rw [← hK]; exact lc_imp))
theorem ds_setLcT (hK : F.K = X.K) (hc : X.calm = true) (hN : X.N.Nodup) (hi : PE X iter (tD F Ta)) (ok : BlkOk X.N X.env.scope scope own) (hv : own.map (·.2) = [j]) (hy : X.N[i]? = some y) (hyl : X.env.scope.names.lookup y = some .local)
    (hsw : swapsWith (.ListComp elt [⟨tg, iter, ifs, 0⟩] scope pos) (some (.Name y py)) spos.line X.env = pure true)
    (hg : ∀ (s : Shared) (H : Hp) (C : Addr) (cl : List (Str × Addr)) (fp : List Addr), PG (X.blk s H scope (compEnvC scope cl C X.env) fp) tg (gName j)) (ht : ∀ (s : Shared) (H : Hp) (C : Addr) (cl : List (Str × Addr)) (fp : List Addr), PTs (X.blk s H scope (compEnvC scope cl C X.env) fp) ifs (tDT F.calm tt))
    (he : ∀ (s : Shared) (H : Hp) (C : Addr) (cl : List (Str × Addr)) (fp : List Addr), PE (X.blk s H scope (compEnvC scope cl C X.env) fp) elt (tD F.calm te)) (hs : ∀ x, foldedSetIterable iter X.env x = pure x := by intro _; rfl) :
    PS X (.Assign [.Name y py] (.ListComp elt [⟨tg, iter, ifs, 0⟩] scope pos) spos) (sD F (dAsg (dLcT Ta j tt te) (dgName i))) := by
  have z := ps_setLc hc hN hy hyl hsw (pi_tup hi) ok hg ht he hs
  rw [hv] at z
  exact PS.imp z (setLc_imp (by rw [← hK]; exact lcT_imp))
end
end DL
set_option Elab.async false
set_option linter.all false
set_option maxRecDepth 100000
set_option maxHeartbeats 2000000
/-! is None; facts; the head with tables -/
namespace DL
open PySem PySem.Spec L2 LamX
open PyProof.Rows hiding St
section
variable {X : Cx} {F : FP} {a b : Expr} {Ta Tb : TDE} {pos : Pos}
def isNo : D → Bool
  | .non => true
  | _ => false
def gIsN : G2 := fun x y Q => match y with
  | .non => Q (.bl (isNo x))
  | _ => False
theorem isNo_rep {K : PySem.W.Frag} {Z : Zn} {N : Addr → Prop} {H : Hp} {d : D} {v : V} (r : Rep K Z N H d v) : decide (v = V.non) = isNo d := by
  cases d with
  | non => rw [show v = V.non from r]; rfl
  | bl b => rw [show v = V.bl b from r]; rfl
  | int b => rw [show v = V.int b from r]; rfl
  | str b => rw [show v = V.str b from r]; rfl
  | tup ds => obtain ⟨p, vs, rfl, _⟩ := r; rfl
  | lst ds => obtain ⟨p, vs, rfl, _⟩ := r; rfl
  | dct ks ds => obtain ⟨p, vs, rfl, _⟩ := r; rfl
  | deck => obtain ⟨p, l, _, rfl⟩ := r; rfl
  | ty n => rw [show v = V.ty n from r]; rfl
  | kt ds => obtain ⟨p, vs, o, rfl, _⟩ := r; rfl
  | ins c fs ds => obtain ⟨p, dx, vs, rfl, _⟩ := r; rfl
theorem opd_isN : OpD F (fun x y H Q => y = .non ∧ Q (.bl (decide (x = .non))) H) gIsN := ⟨by
  intro N H x y dx dy Qd Q n rx ry h k
  unfold gIsN at h
  split at h
  · refine ⟨ry, ?_⟩
    rw [isNo_rep rx]
    exact k _ _ _ Ext.refl rep_bl h
  · exact h.elim⟩
theorem d_isn (ha : PE X a (tD F Ta)) (hb : PE X b (tD F Tb)) (hm : behindInMarks .Is b = false := by rfl) : PE X (.Compare a [.Is] [b] pos) (tD F (dBin gIsN Ta Tb)) := d_cmp op_isN opd_isN ha hb hm
theorem dt_isn (ha : PE X a (tD F Ta)) (hb : PE X b (tD F Tb)) (hm : behindInMarks .Is b = false := by rfl) : PT X (.Compare a [.Is] [b] pos) (tDT F (dTest (dBin gIsN Ta Tb))) := dt_cmp op_isN opd_isN ha hb hm
end
section
variable {X : Cx} {F : FP} {a : Expr} {Ta : TDE}
/-- an int or a bool as a test -/
def truI : D → Option Bool
  | .bl b => some b
  | .int i => some (i != 0)
  | _ => none
def dTruI (T : TDE) : TDT := fun ξ env Q => T ξ env fun d => match truI d with
  | some b => Q b
  | none => False
theorem dt_tru (ha : PE X a (tD F Ta)) (he : ∀ whole, isTrue a X.env whole = (do let v ← whole; standAt a.pos; holding [v] (truthy v)) := by intro _; rfl) : PT X a (tDT F (dTruI Ta)) := PT.imp (pt_truth ha he) (by
  rintro σ H Q ⟨N, env, Qd, f, hT, k⟩
  refine ⟨N, env, _, f, hT, fun v H1 d e1 r q => ?_⟩
  unfold truI at q
  cases d <;> first | exact q.elim | skip
  · rename_i b
    exact ⟨b, by rw [show v = V.bl b from r]; exact rfl, k _ _ e1 q⟩
  · rename_i i
    exact ⟨_, by rw [show v = V.int i from r]; exact rfl, k _ _ e1 q⟩)
end
/-! ### facts -/
def exisB (K : PySem.W.Frag) (n : Str) : Bool := match PySem.W.nsIn K mainGlobals n with
  | some (some (.ref C)) => xfB K C && (PySem.W.clsIn K C).isSome && decide (PySem.W.findIn K (.ref C) "__class__" = some (some (.builtin "object.__class__"))) && decide (PySem.W.specialIn K (.builtin "object.__class__") "__get__" = some (some (.builtin "getset_descriptor.__get__"))) &&
    decide (PySem.W.takesIn K (.builtin "object.__class__") = some true) && decide (PySem.W.mroIn K C (.type "object") = some true)
  | _ => false
theorem exis_ok {K : PySem.W.Frag} {n : Str} (c : exisB K n = true) : ∃ C, clsAt K n = .ref C ∧ ExIs K C := by
  unfold exisB at c
  split at c
  · rename_i C e
    simp only [Bool.and_eq_true, decide_eq_true_eq] at c
    obtain ⟨⟨⟨⟨⟨c1, c2⟩, c3⟩, c4⟩, c5⟩, c6⟩ := c
    exact ⟨C, by unfold clsAt; rw [e], xfB_ok c1, c2, c3, c4, c5, c6⟩
  · cases c
def refB (K : PySem.W.Frag) (n : Str) : Bool := match PySem.W.nsIn K mainGlobals n with
  | some (some (.ref _)) => true
  | _ => false
theorem ref_ok {K : PySem.W.Frag} {h : Heap} {mg : Str → Option Value} (X : K.In h) (G : h.Ns mainGlobals mg) {n : Str} (c : refB K n = true) : ∃ a, clsAt K n = .ref a ∧ mg n = some (.ref a) := by
  unfold refB at c
  split at c
  · rename_i a e
    exact ⟨a, by unfold clsAt; rw [e], PySem.W.mg_of X G e⟩
  · cases c
def initOf (s : Stmt) : Stmt := match s with
  | .ClassDef _ _ _ body _ _ _ _ _ _ _ => body.getD 0 s
  | s => s
theorem fng_false {P : Program} {w : World} {K : PySem.W.Frag} {mg : Str → Option Value} {base : Heap} {CX : CXT} {k : Nat} {f : Addr} {fd : FuncData} {ps : List Str} {m : Nat} : FnG P w K mg base CX k f fd ps (spD K m fun _ _ _ => False) :=
  ⟨fun _ _ _ _ ⟨_, _, _, _, _, _, _, _, h, _⟩ => h.elim, fun _ _ _ _ _ _ _ _ _ _ _ _ _ ⟨_, _, _, _, _, _, _, _, h, _⟩ => h.elim⟩
def kitB (K : PySem.W.Frag) (n m : Str) (b : Bool) : Bool := decide (PySem.W.kitOne K (clsAt K n) (clsAt K m) = some b)
/-- the names of the defs that make lambdas are TN -/
def tabNB (K : PySem.W.Frag) (TN : List Str) : Bool := decide (lamDefs.filter (hasDef K) = TN)
def tabP (K : PySem.W.Frag) (n : Str) : Addr := (He.cT K (n, none)).2
def tab1B (K : PySem.W.Frag) (n : Str) : Bool := decide ((tabP K n, lamQ n) ∈ tabsOf K) && (tabsOf K).all fun p => !decide (p.1 = tabP K n) || decide (p.2 = lamQ n)
structure TabF (K : PySem.W.Frag) (n : Str) : Prop where
  mem : (tabP K n, lamQ n) ∈ tabsOf K
  uni : ∀ p ∈ tabsOf K, p.1 = tabP K n → p.2 = lamQ n
theorem tab1_ok {K : PySem.W.Frag} {n : Str} (c : tab1B K n = true) : TabF K n := by
  unfold tab1B at c
  simp only [Bool.and_eq_true, decide_eq_true_eq, List.all_eq_true, Bool.or_eq_true, Bool.not_eq_true', decide_eq_false_iff_not] at c
  exact ⟨c.1, fun p hp e => (c.2 p hp).resolve_left fun z => z e⟩
abbrev TBs (K : PySem.W.Frag) (mg : Str → Option Value) (base : Heap) (TN : List Str) : Prop := ∀ n ∈ TN, TabB base mg (He.cT K (n, none)).1 (He.cT K (n, none)).2
/-! ### the head -/
section
variable {P : Program} {w : World} {K : PySem.W.Frag} {mg mb : Str → Option Value} {CX : CXT} {k : Nat} {fa a : Addr} {fd : FuncData} {x : Str} {sp : Sp} {s₁ : Shared} {vs : List Value} {ns : List Int}
def startT (K : PySem.W.Frag) (a : Addr) (vs : List Value) (ns : List Int) (ts : List Addr) : Hp := fun b => if b ∈ ts then some (.tbl #[]) else startH K a vs ns b
theorem startT_at {ts : List Addr} {b : Addr} {u : HO} (h : startT K a vs ns ts b = some u) : (b ∈ ts ∧ u = .tbl #[]) ∨ (K.lookup a = none ∧ b = a ∧ u = .frz { cls := .type "list", data := .seq vs.toArray } (.lst (ns.map V.int))) := by
  unfold startT at h
  split at h
  · rename_i hb
    exact .inl ⟨hb, (Option.some.inj h).symm⟩
  · exact .inr (startH_at h)
theorem law_callT {cs : List (Addr × Addr)} (KX : K.In s₁.heap) (hns : s₁.heap.Ns mainGlobals mg) (hb : s₁.heap.Ns builtinsNs mb) (hbb : ∀ x : Str, x ≠ "__name__" → mb x = bootBuiltins x) (hlim : s₁.heap.NoLimit) (hg : s₁.gens = #[])
    (eT : ∀ p ∈ cs, s₁.heap.get? p.2 = some { cls := .none, data := .fields #[] }) (oT : ∀ p ∈ cs, K.lookup p.2 = none) (cT : ∀ p ∈ cs, PySem.W.CodeHd s₁.heap p.1 p.2)
    (bmain : ∃ (bm : Addr) (ob : Obj), mg "__builtins__" = some (.ref bm) ∧ bm ≠ builtinsNs ∧ s₁.heap.get? bm = some ob ∧ ob.cls = .type "module" ∧ ob.dict = some builtinsNs ∧ ob.data = .plain)
    (ha : s₁.heap.get? a = some { cls := .type "list", data := .seq vs.toArray }) (hi : IntsAre vs ns) (hl : ns.length ≤ sizeLine) (hr : RoomG k callerA)
    (F : ∀ base : Heap, K.In base → base.Ns mainGlobals mg → (∀ p ∈ cs, TabB base mg p.1 p.2) → FnG P w K mg base CX k fa fd [x] sp) (hbind : ∀ (s : Shared) (u : Value), BindsTo s fd ⟨[u], []⟩ [(x, u)])
    (hsp : ∀ H : Hp, (∀ p ∈ cs, H p.2 = some (.tbl #[])) → SqL K H a (ns.map V.int) → sp [.ref a] H (fun v _ => v = .bl true) fun _ _ _ => False) (hCX : ∀ H e s', CX [] H s₁ (fun _ _ _ => False) e s' → False) :
    codeAny (model P w) callerA (.call (.ref fa) ⟨[.ref a], []⟩) (fun r s' => r = .ok (.ret (.bool true)) ∧ OldK s₁.heap s'.heap ∧ s'.os = s₁.os ∧ AllBare s'.gens) s₁ := by
  have rel := vals_ints hi
  have hlen : ns.length = vs.length := hi.length.symm
  have memT : ∀ p ∈ cs, p.2 ∈ cs.map Prod.snd := fun p hp => List.mem_map_of_mem hp
  have tabAt : ∀ b ∈ cs.map Prod.snd, s₁.heap.get? b = some { cls := .none, data := .fields #[] } := by
    intro b hb
    obtain ⟨p, hp, rfl⟩ := List.mem_map.mp hb
    exact eT p hp
  have notT : a ∉ cs.map Prod.snd := by
    intro z
    have e := tabAt a z
    rw [ha] at e
    injection e with e
    injection e with _ _ e _
    cases e
  generalize eH : startT K a vs ns (cs.map Prod.snd) = H
  have at_ : ∀ {b : Addr} {u : HO}, H b = some u → (b ∈ cs.map Prod.snd ∧ u = .tbl #[]) ∨ (K.lookup a = none ∧ b = a ∧ u = .frz { cls := .type "list", data := .seq vs.toArray } (.lst (ns.map V.int))) := fun {b u} h => startT_at (by rw [eH]; exact h)
  have free : ∀ {b : Addr}, b ≠ a → b ∉ cs.map Prod.snd → H b = none := fun {b} h h2 => by
    cases q : H b with
    | none => rfl
    | some u =>
      rcases at_ q with z | z
      · exact absurd z.1 h2
      · exact absurd z.2.1 h
  have tabH : ∀ p ∈ cs, H p.2 = some (.tbl #[]) := fun p hp => by
    rw [← eH]
    exact if_pos (memT p hp)
  have held : HOk P w H s₁.heap := fun b u e => by
    rcases at_ e with ⟨z, rfl⟩ | ⟨_, rfl, rfl⟩
    · exact tabAt b z
    · exact ⟨ha, by rw [List.length_map]; exact hl, vs, _, rel, ha⟩
  have script : SqL K H a (ns.map V.int) := by
    cases q : K.lookup a with
    | none =>
      refine .inl (.inr ⟨{ cls := .type "list", data := .seq vs.toArray }, ?_⟩)
      rw [← eH]
      unfold startT startH
      rw [if_neg notT, q]
      exact if_pos rfl
    | some o =>
      have e := KX a o q
      rw [ha] at e
      cases e
      exact .inr ⟨_, vs.toArray, _, q, rfl, rfl, rfl, by rw [List.size_toArray, ← hlen]; exact hl, by simpa using rel⟩
  have plainB : ∀ {b : Addr} {o : Obj}, s₁.heap.get? b = some o → (∀ (us : Array Value) (m : Nat), o.data ≠ .seq us m) → o.data ≠ .fields #[] → H b = none := fun {b o} e h1 h2 => free (fun z => by
    subst z
    rw [ha] at e
    cases e
    exact h1 _ _ rfl) fun z => by
    rw [tabAt b z] at e
    cases e
    exact h2 rfl
  have ns' : ∀ {b : Addr} {m : Str → Option Value}, s₁.heap.Ns b m → (hidT s₁.heap H).Ns b m := fun {b m} ⟨o, es, ep, e, d, r⟩ => ⟨o, es, ep, hidT_get e (plainB e (by intro _ _ z; rw [d] at z; cases z) (by intro z; rw [d] at z; cases z)), d, r⟩
  have inK : K.In (hidT s₁.heap H) := fun b o e => hidT_get (KX b o e) (by
    cases q : H b with
    | none => rfl
    | some u =>
      rcases at_ q with ⟨h1, _⟩ | ⟨h1, h2, _⟩
      · obtain ⟨p, hp, rfl⟩ := List.mem_map.mp h1
        rw [oT p hp] at e
        cases e
      · rw [h2, h1] at e
        cases e)
  have tabs : ∀ p ∈ cs, TabB (hidT s₁.heap H) mg p.1 p.2 := by
    intro p hp
    have hT := eT p hp
    have gP : mainGlobals ≠ p.2 := by
      obtain ⟨o, es, ep, e, d, _⟩ := hns
      intro z
      rw [z, hT] at e
      cases e
      cases d
    refine ⟨?_, ?_, gP⟩
    · obtain ⟨o, us, file, tf, flags, tg, inF, text, tt, e1, r1, r2, r3, rest⟩ := cT p hp
      refine ⟨o, us, file, tf, flags, tg, inF, text, tt, hidT_get e1 (plainB e1 ?_ ?_), r1, r2, r3, rest⟩
      · intro _ _ z; rw [r2] at z; cases z
      · intro z
        rw [r2] at z
        cases z
        simp at r3
    · obtain ⟨bm, ob, b1, b2, b3, b4, b5, b6⟩ := bmain
      refine ⟨bm, ob, b1, b2, ?_, ?_, hidT_get b3 (plainB b3 ?_ ?_), b4, b5, b6⟩
      · obtain ⟨o, es, ep, e, d, _⟩ := hns
        intro z
        rw [z, e] at b3
        cases b3
        rw [d] at b6
        cases b6
      · intro z
        rw [z, hT] at b3
        cases b3
        cases b6
      · intro _ _ z; rw [b6] at z; cases z
      · intro z; rw [b6] at z; cases z
  obtain ⟨mc, l1, l2⟩ := hlim
  have e0 : Env0 P w K mg (hidT s₁.heap H) callerA [] s₁ H :=
    ⟨rfl, ⟨inK, ns' hns, ⟨mb, ns' hb, hbb⟩, mc, ns' l1, l2⟩, fun b o e => of_hidT e, Nat.le_of_eq (hidT_size _ _), trivial, (fun b h => by cases h), held, .of_eq hg⟩
  refine codeAny_mono ((F _ inK (ns' hns) tabs).run callerA [] s₁ H ⟨[.ref a], []⟩ [.ref a] [.ref a] _ _ hr e0 (hbind s₁ (.ref a)) (.cons rfl .nil) (hsp H tabH script)) ?_
  rintro (e | fl) s' h
  · exact (hCX H e s' h).elim
  cases fl with
  | next => cases h
  | brk => cases h
  | cont => cases h
  | ret u =>
    obtain ⟨v, H', os, bare, un, hok', r', q⟩ := h
    have q' : v = .bl true := q
    subst q'
    obtain rfl : u = Value.bool true := r'
    have same : ∀ b o, b ∉ cs.map Prod.snd → s₁.heap.get? b = some o → s'.heap.get? b = some o := by
      intro b o nb e
      cases q : H b with
      | none => exact un.keep b o e q (by intro z; cases z) (by intro z; cases z)
      | some u =>
        rcases at_ q with z | ⟨_, rfl, rfl⟩
        · exact absurd z.1 nb
        · obtain ⟨e2, _⟩ := hok' b _ (un.frzs b _ _ q)
          rw [ha] at e
          cases e
          exact e2
    have wider : ∀ p ∈ cs, ∃ more : Array Value, s'.heap.get? p.2 = some { cls := .none, data := .fields more } := by
      intro p hp
      obtain ⟨more, z⟩ := un.tbls p.2 #[] (tabH p hp)
      exact ⟨_, hok' p.2 _ z⟩
    refine ⟨rfl, ⟨?_, ?_⟩, os, bare⟩
    · intro b o e
      by_cases nb : b ∈ cs.map Prod.snd
      · obtain ⟨p, hp, rfl⟩ := List.mem_map.mp nb
        obtain ⟨more, z⟩ := wider p hp
        rw [eT p hp] at e
        cases e
        exact .inr (.inl ⟨((cT p hp).tab (eT p hp)).isCodeTable, rfl, #[], more, rfl, by rw [Array.empty_append]; exact z⟩)
      · exact .inl (same b o nb e)
    · intro b o e
      by_cases nb : b ∈ cs.map Prod.snd
      · obtain ⟨p, hp, rfl⟩ := List.mem_map.mp nb
        obtain ⟨more, z⟩ := wider p hp
        exact ⟨_, z⟩
      · exact ⟨o, same b o nb e⟩
end
theorem walk_ofT {l : PySem.W.OpenLaw} {n k : Nat} {q : Program} {loose : List Str} {XP : (Str → Option Value) → Heap → Prop} {YP : World → Heap → Prop} {d : DefRec} {x : Str}
    (hn : l.most = some n) (hn2 : n ≤ sizeLine) (hdf : d.params.defaults = []) (hr : RoomG k callerA)
    (F : ∀ (w : World) (mg : Str → Option Value) (fa : Addr) (h : Heap), YP w h → h.Ns mainGlobals mg → mg d.name = some (.ref fa) →
      ∃ (K : PySem.W.Frag) (fd : FuncData) (cs : List (Addr × Addr)) (sp : Sp), K.In h ∧ ((∀ p ∈ cs, h.get? p.2 = some { cls := .none, data := .fields #[] }) ∧ (∀ p ∈ cs, K.lookup p.2 = none) ∧ ∀ p ∈ cs, PySem.W.CodeHd h p.1 p.2) ∧ (∀ (s : Shared) (u : Value), BindsTo s fd ⟨[u], []⟩ [(x, u)]) ∧
        (∀ (H : Hp) (a : Addr) (ns : List Int), ns.length ≤ n → (∀ p ∈ cs, H p.2 = some (.tbl #[])) → SqL K H a (ns.map V.int) → sp [.ref a] H (fun v _ => v = .bl true) fun _ _ _ => False) ∧
        ∀ base : Heap, K.In base → base.Ns mainGlobals mg → (∀ p ∈ cs, TabB base mg p.1 p.2) → FnG l.prog w K mg base CX0 k fa fd [x] sp) :
    PySem.W.WalkO q loose XP YP l.row.toRowW d [] (fun f vs => PySem.call f vs) :=
  Att.attach_callB hn hdf fun w s₀ s₁ mg mb fa o pm cd doc a vs ns G Y ho hd hcd hmg hobj hints hlen _ hg =>
    let ⟨_, _, _, _, KX, hT, hb, hsp, hF⟩ := F w mg fa _ Y G.T.g hmg
    law_callT KX G.T.g G.T.b G.T.builtins G.T.nolimit hg hT.1 hT.2.1 hT.2.2 G.T.bmain hobj hints (Nat.le_trans hlen hn2) hr hF hb (fun H hH hS => hsp H a ns hlen hH hS) fun _ _ _ z => z
def obsF (n : Nat) (fa : List He.Fa) (fn : List He.DefD) (TN : List Str) (ex : PySem.W.Frag → Bool) (g : Addr → Option Obj) : He.AlD × Bool :=
  (He.obsD fa fn (He.frT g (He.asD g n ++ [cStatics, sysModules])), ex (He.frT g (He.asD g n ++ [cStatics, sysModules])) && He.tabsB g (TN.map fun n => (n, none)) (He.frT g (He.asD g n ++ [cStatics, sysModules])))
structure SaysF (fa : List He.Fa) (fn : List He.DefD) (TN : List Str) (ex : PySem.W.Frag → Bool) (h : Heap) (K : PySem.W.Frag) : Prop where
  d : He.SaysD fa fn K
  ex : ex K = true
  hd : ∀ n ∈ TN, PySem.W.codeHdIn K (He.cT K (n, none)).1 (He.cT K (n, none)).2 = true
  out : ∀ n ∈ TN, K.lookup (He.cT K (n, none)).2 = none
  emp : ∀ n ∈ TN, h.get? (He.cT K (n, none)).2 = some { cls := .none, data := .fields #[] }
theorem saysF_of {n : Nat} {fa : List He.Fa} {fn : List He.DefD} {TN : List Str} {ex : PySem.W.Frag → Bool} {h : Heap} (e : obsF n fa fn TN ex h.get? = (He.valD fn, true)) : SaysF fa fn TN ex h (He.frT h.get? (He.asD h.get? n ++ [cStatics, sysModules])) := by
  have e1 := congrArg (fun z : He.AlD × Bool => z.1) e
  have e2 := congrArg (fun z : He.AlD × Bool => z.2) e
  unfold obsF at e1 e2
  dsimp only at e1 e2
  obtain ⟨x1, x2⟩ := Bool.and_eq_true_iff.mp e2
  have all : ∀ m ∈ TN, PySem.W.codeHdIn (He.frT h.get? (He.asD h.get? n ++ [cStatics, sysModules])) (He.cT (He.frT h.get? (He.asD h.get? n ++ [cStatics, sysModules])) (m, none)).1 (He.cT (He.frT h.get? (He.asD h.get? n ++ [cStatics, sysModules])) (m, none)).2 = true ∧
      ∃ o, h.get? (He.cT (He.frT h.get? (He.asD h.get? n ++ [cStatics, sysModules])) (m, none)).2 = some o ∧ He.emptyTab o = true := by
    intro m hm
    unfold He.tabsB at x2
    obtain ⟨y1, y2⟩ := Bool.and_eq_true_iff.mp (List.all_eq_true.mp x2 (m, none) (List.mem_map.mpr ⟨m, hm, rfl⟩))
    refine ⟨y1, ?_⟩
    split at y2
    · rename_i o z
      exact ⟨o, z, y2⟩
    · cases y2
  exact ⟨e1, x1, fun m hm => (all m hm).1, fun m hm => let ⟨_, _, z, q⟩ := all m hm; He.frT_none z q, fun m hm => by
    obtain ⟨_, o, z, q⟩ := all m hm
    rw [z, He.emptyTab_eq q]⟩
def hookF (n : Nat) (fa : List He.Fa) (fn : List He.DefD) (TN : List Str) (ex : PySem.W.Frag → Bool) : PySem.W.Hook where
  α := He.AlD × Bool
  obs := fun s => obsF n fa fn TN ex s.heap.get?
  val := fun _ => (He.valD fn, true)
  says := fun _ h => ∃ K : PySem.W.Frag, K.In h ∧ SaysF fa fn TN ex h K
  of := fun _ _ e => ⟨_, He.frT_in, saysF_of e⟩
  keeps := fun _ _ _ ⟨K, hK, c⟩ k => ⟨K, PySem.W.Frag.In.keeps hK k, ⟨c.d, c.ex, c.hd, c.out, fun p hp => k _ _ (c.emp p hp)⟩⟩
theorem obsF_eq {n : Nat} {fa : List He.Fa} {fn : List He.DefD} {TN : List Str} {ex : PySem.W.Frag → Bool} {g : Addr → Option Obj} {s : Shared} (h : ∀ a, g a = s.heap.get? a) : obsF n fa fn TN ex g = (hookF n fa fn TN ex).obs s := by
  have e : g = s.heap.get? := funext h
  subst e
  rfl
theorem cs_ok {fa : List He.Fa} {fn : List He.DefD} {TN : List Str} {ex : PySem.W.Frag → Bool} {h : Heap} {K : PySem.W.Frag} (KX : K.In h) (c : SaysF fa fn TN ex h K) :
    (∀ p ∈ TN.map (fun n => He.cT K (n, none)), h.get? p.2 = some { cls := .none, data := .fields #[] }) ∧ (∀ p ∈ TN.map (fun n => He.cT K (n, none)), K.lookup p.2 = none) ∧ ∀ p ∈ TN.map (fun n => He.cT K (n, none)), PySem.W.CodeHd h p.1 p.2 := by
  refine ⟨?_, ?_, ?_⟩ <;> intro p hp <;> obtain ⟨n, hn, rfl⟩ := List.mem_map.mp hp
  · exact c.emp n hn
  · exact c.out n hn
  · exact PySem.W.codeHd_of_K KX (c.hd n hn)
theorem tbs_of {K : PySem.W.Frag} {mg : Str → Option Value} {base : Heap} {TN : List Str} (h : ∀ p ∈ TN.map (fun n => He.cT K (n, none)), TabB base mg p.1 p.2) : TBs K mg base TN := fun n hn => h _ (List.mem_map.mpr ⟨n, hn, rfl⟩)
/-- the tables at the start are tables -/
theorem tabs_start {K : PySem.W.Frag} {TN : List Str} {H : Hp} (c : tabNB K TN = true) (h : ∀ p ∈ TN.map (fun n => He.cT K (n, none)), H p.2 = some (.tbl #[])) : Tabs (tabsOf K) H := by
  intro p hp
  unfold tabsOf at hp
  rw [of_decide_eq_true c] at hp
  obtain ⟨n, hn, rfl⟩ := List.mem_map.mp hp
  exact TabS.nil (h _ (List.mem_map.mpr ⟨n, hn, rfl⟩))
end DL
set_option Elab.async false
set_option linter.all false
set_option maxRecDepth 100000
set_option maxHeartbeats 2000000
/-! a list of the def's own, made by a comprehension on one line -/
namespace DL
open PySem PySem.Spec L2
open PyProof.Rows hiding St
section
variable {X : Cx} {F : FP} {a e elt iter : Expr} {ifs : List Expr} {scope : Scope} {own : List (Str × Nat)} {pos p pos' spos py : Pos} {tg : Expr} {Ta : TDE} {Tas : TDA} {tt : TDT} {te : TDE} {i j : Nat} {y : Str}
theorem ownLc_imp {T : TDL} {ta : TE} (h : ∀ σ H Q, tDL F T σ H Q → ta σ H Q) : ∀ De σ H, sD F (dOwn T i) De σ H → tAsg ta (gName i) De σ H := by
  rintro De σ H ⟨N, env, Dd, f, hT, ok⟩
  exact h _ _ _ ⟨N, env, _, f, hT, fun q vs H' ds n w => ok.nx _ _ _ _ (n.own i) (n.evo f.n) w⟩
theorem ds_ownLcR (hK : F.K = X.K) (hc : X.calm = true) (hN : X.N.Nodup) (hgl : Gl X "range") (hm : X.mg "range" = none) (ha : PA X [a] (tDA F Tas)) (ok : BlkOk X.N X.env.scope scope own) (hv : own.map (·.2) = [j]) (hy : X.N[i]? = some y) (hyl : X.env.scope.names.lookup y = some .local)
    (hsw : swapsWith (.ListComp elt [⟨tg, .Call (.Name "range" p) [a] [] pos', ifs, 0⟩] scope pos) (some (.Name y py)) spos.line X.env = pure true)
    (hg : ∀ (s : Shared) (H : Hp) (C : Addr) (cl : List (Str × Addr)) (fp : List Addr), PG (X.blk s H scope (compEnvC scope cl C X.env) fp) tg (gName j)) (ht : ∀ (s : Shared) (H : Hp) (C : Addr) (cl : List (Str × Addr)) (fp : List Addr), PTs (X.blk s H scope (compEnvC scope cl C X.env) fp) ifs (tDT F.calm tt))
    (he : ∀ (s : Shared) (H : Hp) (C : Addr) (cl : List (Str × Addr)) (fp : List Addr), PE (X.blk s H scope (compEnvC scope cl C X.env) fp) elt (tD F.calm te)) (hsa : starEach [a] X.env = [(false, eval a X.env)] := by rfl) (hs : ∀ x, foldedSetIterable (.Call (.Name "range" p) [a] [] pos') X.env x = pure x := by intro _; rfl) :
    PS X (.Assign [.Name y py] (.ListComp elt [⟨tg, .Call (.Name "range" p) [a] [] pos', ifs, 0⟩] scope pos) spos) (sD F (dOwn (lLcR Tas j tt te) i)) := by
  have z := ps_setLc hc hN hy hyl hsw (pi_range1 hgl hm ha hsa) ok hg ht he hs
  rw [hv] at z
  exact PS.imp z (ownLc_imp lcR_impL)
theorem ds_ownLcL (hK : F.K = X.K) (hc : X.calm = true) (hN : X.N.Nodup) (hi : PE X iter (tD F Ta)) (ok : BlkOk X.N X.env.scope scope own) (hv : own.map (·.2) = [j]) (hy : X.N[i]? = some y) (hyl : X.env.scope.names.lookup y = some .local)
    (hsw : swapsWith (.ListComp elt [⟨tg, iter, ifs, 0⟩] scope pos) (some (.Name y py)) spos.line X.env = pure true)
    (hg : ∀ (s : Shared) (H : Hp) (C : Addr) (cl : List (Str × Addr)) (fp : List Addr), PG (X.blk s H scope (compEnvC scope cl C X.env) fp) tg (gName j)) (ht : ∀ (s : Shared) (H : Hp) (C : Addr) (cl : List (Str × Addr)) (fp : List Addr), PTs (X.blk s H scope (compEnvC scope cl C X.env) fp) ifs (tDT F.calm tt))
    (he : ∀ (s : Shared) (H : Hp) (C : Addr) (cl : List (Str × Addr)) (fp : List Addr), PE (X.blk s H scope (compEnvC scope cl C X.env) fp) elt (tD F.calm te)) (hs : ∀ x, foldedSetIterable iter X.env x = pure x := by intro _; rfl) :
    PS X (.Assign [.Name y py] (.ListComp elt [⟨tg, iter, ifs, 0⟩] scope pos) spos) (sD F (dOwn (lLc Ta j tt te) i)) := by
  have z := ps_setLc hc hN hy hyl hsw (pi_list hi) ok hg ht he hs
  rw [hv] at z
  exact PS.imp z (ownLc_imp (by rw [← hK]; exact lc_impL))
end
/-! ### [e for x, y in zip(a, b)], a and b tuples of one length -/
def zipD : List D → List D → List D
  | x :: xs, y :: ys => .tup [x, y] :: zipD xs ys
  | _, _ => []
theorem zipD_len : ∀ {xs ys : List D}, xs.length = ys.length → (zipD xs ys).length = xs.length
  | [], [], _ => rfl
  | _ :: xs, _ :: ys, h => by
    show (zipD xs ys).length + 1 = xs.length + 1
    rw [zipD_len (by simpa using h)]
  | [], _ :: _, h => by cases h
  | _ :: _, [], h => by cases h
theorem zipD_get : ∀ {xs ys : List D} {i : Nat} {x y : D}, xs[i]? = some x → ys[i]? = some y → (zipD xs ys)[i]? = some (.tup [x, y])
  | x :: xs, y :: ys, 0, _, _, h1, h2 => by cases h1; cases h2; rfl
  | x :: xs, y :: ys, i + 1, _, _, h1, h2 => by
    show (zipD xs ys)[i]? = _
    exact zipD_get (by simpa using h1) (by simpa using h2)
  | [], _, _, _, _, h1, _ => by simp at h1
  | _ :: _, [], _, _, _, _, h2 => by simp at h2
abbrev gZ (j l : Nat) : TDG := dgTup 2 (dgCons (dgName j) (dgCons (dgName l) dgNil))
abbrev rZ (K : PySem.W.Frag) (j l : Nat) : TG := gTup K 2 (gCons (gName j) (gCons (gName l) gNil))
section
variable {X : Cx} {F : FP} {Ta : TDE} {Tas : TDA} {N : Addr → Prop} {σ : L2.St} {H1 H' : Hp} {env : SE} {A : Addr} {tt : TDT} {te : TDE} {all : List D} {Qd : D → Prop} {j l : Nat}
theorem wipe2 {x y : Option V} (hjl : j ≠ l) : L2.wipe (((L2.wipe σ [j, l]).set j x).set l y) [j, l] = L2.wipe σ [j, l] := by
  show ((((((σ.set l none).set j none).set j x).set l y).set l none).set j none) = (σ.set l none).set j none
  refine List.ext_getElem? fun k => ?_
  simp only [List.getElem?_set, List.length_set]
  by_cases e1 : j = k <;> by_cases e2 : l = k <;> simp [e1, e2]
theorem lc_turnZ (f : FOk F N σ H1 env) (hA : H1 A = none) (hjl : j ≠ l) (hz : all.length ≤ sizeLine) {i : Nat} {dx dy : D} {x y : V} {T : Addr} (hd : all[i]? = some (.tup [dx, dy])) (rx : Rep F.K F.Z N H1 dx x) (rye : Rep F.K F.Z N H1 dy y) (L : LcAt F N H1 A (gZ j l) tt te (wipeD env [j, l]) all Qd i H') (hT : H' T = none) :
    rZ F.K j l (.ref T) (L2.wipe σ [j, l]) (upd H' T (.tup [x, y])) fun σ2 H2 => L2.wipe σ2 [j, l] = L2.wipe σ [j, l] ∧ tDT F.calm tt σ2 H2 fun b H3 =>
      if b = true then tD F.calm te σ2 H3 fun y H4 => ∃ acc, H4 A = some (.lst acc) ∧ acc.length < sizeLine ∧ LcAt F N H1 A (gZ j l) tt te (wipeD env [j, l]) all Qd (i + 1) (upd H4 A (.lst (acc ++ [y]))) else LcAt F N H1 A (gZ j l) tt te (wipeD env [j, l]) all Qd (i + 1) H3 := by
  obtain ⟨ext, acc, ds, h1, h2, h3, h4⟩ := L
  obtain ⟨hi, e⟩ := List.getElem?_eq_some_iff.mp hd
  rw [List.drop_eq_getElem_cons hi, e] at h4
  obtain ⟨_, h4⟩ := h4
  have f0 : FOk F (fun q => N q ∨ q = A) (L2.wipe σ [j, l]) H' (wipeD env [j, l]) := (f.with' kp_lst hA ext h1).wipe [j, l]
  have lT : Ext F.Z H' (upd H' T (.tup [x, y])) := f0.n.lay hT
  have f1 := f0.ext' lT
  have xT := ext.trans lT
  have hAT : upd H' T (.tup [x, y]) A = some (.lst acc) := by rw [upd_ne (ne_of_none h1 hT)]; exact h1
  have mv : ∀ r u, ¬ N r → Kp u → H1 r = some u → upd H' T (.tup [x, y]) r = some u ∧ ¬ (N r ∨ r = A) := fun r u n k h => ⟨xT.keep r u (fun z => n (f.n.z r z)) k h, fun z => z.elim n (ne_of_none h hA)⟩
  have r1 : Rep F.K F.Z (fun q => N q ∨ q = A) (upd H' T (.tup [x, y])) dx x := Rep.mono mv dx x rx
  have r2 : Rep F.K F.Z (fun q => N q ∨ q = A) (upd H' T (.tup [x, y])) dy y := Rep.mono mv dy y rye
  have nz : ∀ p, InZ F.Z p → p ≠ A := fun p z e => by
    obtain ⟨o, q, _⟩ := f.n.all p (f.n.z p z)
    rw [e, hA] at q; cases q
  refine ⟨T, [x, y], rfl, sqt_of (N := fun _ => False) (.inl ⟨fun z => z, upd_same⟩), rfl, x, [y], rfl, y, [], rfl, rfl, ?_⟩
  refine ⟨wipe2 hjl, ?_⟩
  refine ⟨_, _, _, (((f1.set j r1).set l r2)).wish _, h4, fun b H3 e3 q3 => ?_⟩
  have x3 := xT.trans e3
  have a3 : H3 A = some (.lst acc) := e3.keep A _ (fun z => nz A z rfl) kp_lst hAT
  have f3 := f1.ext' e3
  by_cases hb : b = true
  · subst hb
    rw [if_pos rfl] at q3
    refine iteT ?_
    refine ⟨_, _, _, (((f1.set j r1).set l r2).ext' e3).wish _, q3, fun y H4 dy e4 ry q4 => ?_⟩
    have a4 : H4 A = some (.lst acc) := e4.keep A _ (fun z => nz A z rfl) kp_lst a3
    have x4 := x3.trans e4
    refine ⟨acc, a4, by omega, ⟨fun p o n k h => ?_, fun dk => ?_⟩, acc ++ [y], ds ++ [dy], upd_same, by simp; omega, ?_, ?_⟩
    · rw [upd_ne (ne_of_none h hA)]
      exact x4.keep p o n k h
    · refine ⟨fun a l ez => ?_, fun p hp => ?_⟩
      · obtain ⟨xs, m, c, k1, k2, k3⟩ := (x4.deck dk).1 a l ez
        exact ⟨xs, m, c, by rw [upd_ne (nz a ⟨a, l, ez, .inl rfl⟩)]; exact k1, by rw [upd_ne (nz l ⟨a, l, ez, .inr rfl⟩)]; exact k2, k3⟩
      · exact tab_upd a4 kp_lst (fun _ h => by cases h) ((x4.deck dk).2 p hp)
    · have mv4 : ∀ r u, ¬ (N r ∨ r = A) → Kp u → H4 r = some u → upd H4 A (.lst (acc ++ [y])) r = some u ∧ ¬ (N r ∨ r = A) := fun r u n _ h => ⟨by rw [upd_ne (fun z => n (.inr z))]; exact h, n⟩
      have h4' : Reps F.K F.Z (fun q => N q ∨ q = A) H4 ds acc := ((h3.ext lT f0.n.z).ext e3 f1.n.z).ext e4 f1.n.z
      exact (Reps.mono mv4 _ _ h4').snoc (Rep.mono mv4 _ _ ry)
    · have : (fun ys => Qd (.lst (ds ++ [dy] ++ ys))) = fun ys => Qd (.lst (ds ++ dy :: ys)) := by
        funext ys; rw [List.append_assoc]; rfl
      rw [this]
      exact q4
  · rw [Bool.not_eq_true] at hb
    subst hb
    rw [if_neg Bool.false_ne_true] at q3
    refine iteF ?_
    exact ⟨x3, acc, ds, a3, by omega, (h3.ext lT f0.n.z).ext e3 f1.n.z, q3⟩
theorem lc_endZ {env0 : SE} (f : FOk F N σ H1 env) (hA : H1 A = none) {G : TDG} {H0 : Hp} {Q : VK} (e : Ext F.Z H0 H1) (k : ∀ v H' d, Ext F.Z H0 H' → Rep F.K F.Z N H' d v → Qd d → Q v H') {n : Nat} (hn : all.length = n) (L : LcAt F N H1 A G tt te env0 all Qd n H') : Q (.ref A) H' := by
  obtain ⟨ext, acc, ds, h1, h2, h3, h4⟩ := L
  rw [← hn, List.drop_length] at h4
  have h4 : Qd (.lst (ds ++ [])) := h4
  rw [List.append_nil] at h4
  exact k _ _ (.lst ds) (e.trans ext) ⟨A, acc, rfl, f.n.fresh hA, h1, h3.less fun p z => .inl z⟩ h4
def dLcZ (T : TDA) (j l : Nat) (tt : TDT) (te : TDE) : TDE := fun ξ env Q => T ξ env fun ds => match ds with
  | [.tup xs, .tup ys] => (xs.length = ys.length ∧ xs.length ≤ sizeLine) ∧ lcD (gZ j l) tt te (wipeD env [j, l]) (zipD xs ys) fun zs => Q (.lst zs)
  | _ => False
theorem lcZ_imp (hjl : j ≠ l) : ∀ σ H Q, tD F (dLcZ Tas j l tt te) σ H Q → tLc (RZ.iZipA F.K (tDA F Tas)) (rZ F.K j l) (tDT F.calm tt) (tD F.calm te) [j, l] σ H Q := by
  rintro σ H Q ⟨N, env, Qd, f, hT, k⟩
  refine ⟨N, env, _, f, hT, fun vs H1 ds e1 r q => ?_⟩
  split at q
  · rename_i xs ys
    obtain ⟨v1, _, rfl, ⟨a, us, rfl, ra, rs⟩, v2, _, rfl, ⟨b, ws, rfl, rb, rs2⟩, rfl⟩ := r
    have f1 := f.ext' e1
    obtain ⟨⟨hl, hz⟩, q⟩ := q
    have l1 := rs.length
    have l2 := rs2.length
    have lz : (zipD xs ys).length = us.length := by rw [zipD_len hl, l1]
    refine ⟨a, b, us, ws, rfl, .inr ⟨sqt_of ra, sqt_of rb, fun A hA => ?_⟩⟩
    refine ⟨fun i m H' => m = us.length - i ∧ i ≤ us.length ∧ LcAt F N H1 A (gZ j l) tt te (wipeD env [j, l]) (zipD xs ys) Qd i H', ⟨us.length, rfl, Nat.zero_le _, lc_start f1.n hA q⟩, ?_⟩
    rintro i m H' ⟨rfl, hi, L⟩
    have qa : SqT F.K H' a us := by
      refine sqt_of (N := N) ?_
      rcases ra with ⟨n, ra⟩ | ra
      · exact .inl ⟨n, L.ext.keep a _ (fun z => n (f.n.z a z)) kp_tup ra⟩
      · exact .inr ra
    have qb : SqT F.K H' b ws := by
      refine sqt_of (N := N) ?_
      rcases rb with ⟨n, rb⟩ | rb
      · exact .inl ⟨n, L.ext.keep b _ (fun z => n (f.n.z b z)) kp_tup rb⟩
      · exact .inr rb
    by_cases hlt : i < us.length
    · have hx : us[i]? = some us[i] := List.getElem?_eq_getElem hlt
      have hlt2 : i < ws.length := by omega
      have hy : ws[i]? = some ws[i] := List.getElem?_eq_getElem hlt2
      refine .inr ⟨⟨us, ws, _, _, qa, qb, hx, hy⟩, fun H2 => LcAt F N H1 A (gZ j l) tt te (wipeD env [j, l]) (zipD xs ys) Qd (i + 1) H2, fun H2 p => ⟨us.length - (i + 1), by omega, rfl, hlt, p⟩, ?_⟩
      rintro v H2 ⟨T, x', y', rfl, hT', rfl, g1, g2⟩
      obtain ⟨dx, hdx, rdx⟩ := rs.getV (g1 us qa)
      obtain ⟨dy, hdy, rdy⟩ := rs2.getV (g2 ws qb)
      exact lc_turnZ f1 hA hjl (by omega) (zipD_get hdx hdy) rdx rdy L hT'
    · have e : i = us.length := by omega
      subst e
      exact .inl ⟨⟨us, ws, qa, qb, .inl (Nat.le_refl _)⟩, lc_endZ f1 hA e1 k lz L⟩
  · exact q.elim
variable {a b elt : Expr} {elts ifs : List Expr} {kk : Nat} {scope : Scope} {own : List (Str × Nat)} {pos p pos' tpos : Pos}
theorem d_lcZ (hK : F.K = X.K) (hc : X.calm = true) (hN : X.N.Nodup) (hjl : j ≠ l) (hgl : Gl X "zip") (hm : X.mg "zip" = none) (ha : PA X [a, b] (tDA F Tas)) (ok : BlkOk X.N X.env.scope scope own) (hv : own.map (·.2) = [j, l])
    (hg : ∀ (s : Shared) (H : Hp) (C : Addr) (cl : List (Str × Addr)) (fp : List Addr), PG (X.blk s H scope (compEnvC scope cl C X.env) fp) (.Tuple elts kk tpos) (rZ X.K j l)) (ht : ∀ (s : Shared) (H : Hp) (C : Addr) (cl : List (Str × Addr)) (fp : List Addr), PTs (X.blk s H scope (compEnvC scope cl C X.env) fp) ifs (tDT F.calm tt))
    (he : ∀ (s : Shared) (H : Hp) (C : Addr) (cl : List (Str × Addr)) (fp : List Addr), PE (X.blk s H scope (compEnvC scope cl C X.env) fp) elt (tD F.calm te)) (hs1 : starEach [a, b] X.env = (false, eval a X.env) :: starEach [b] X.env := by rfl) (hpl : (backTo pos' (starEach [b] X.env)).any (·.1) = false := by rfl)
    (hs : ∀ x, foldedSetIterable (.Call (.Name "zip" p) [a, b] [] pos') X.env x = pure x := by intro _; rfl) :
    PE X (.ListComp elt [⟨.Tuple elts kk tpos, .Call (.Name "zip" p) [a, b] [] pos', ifs, 0⟩] scope pos) (tD F (dLcZ Tas j l tt te)) := by
  have z := pe_lc (pos := pos) hc hN (RZ.pi_zipA hgl hm ha hs1 hpl) ok hg ht he hs
  rw [hv] at z
  exact PE.imp z (by rw [← hK]; exact lcZ_imp hjl)
end
end DL
set_option Elab.async false
set_option linter.all false
set_option maxRecDepth 100000
/-! what can be shown, by weight -/
namespace DL
open PySem PySem.Spec L2
/-- signs that are signs -/
def Cs (x : Str) : Prop := ∀ c ∈ x.cps.toList, c < 16 ^ 8
theorem cs_of (s : String) : Cs (Str.ofString s) := by
  intro c h
  rw [Str.ofString_eq_toList] at h
  obtain ⟨x, _, rfl⟩ := List.mem_map.mp h
  exact x.val.toNat_lt
theorem Cs.app {x y : Str} (h : Cs x) (g : Cs y) : Cs (x ++ y) := by
  intro c m
  have e : (x ++ y).cps.toList = x.cps.toList ++ y.cps.toList := by
    show (x.cps ++ y.cps).toList = _
    exact Array.toList_append
  rw [e] at m
  exact (List.mem_append.mp m).elim (h c) (g c)
theorem cs_from : ∀ (ts : List Str) (k : Nat) (acc : Str), Cs acc → (∀ t ∈ ts, Cs t) → Cs (textFrom k acc ts)
  | [], _, _, h, _ => h
  | t :: ts, k, acc, h, g => cs_from ts (k + 1) _ ((h.app (cs_of _)).app (g t List.mem_cons_self)) fun u m => g u (List.mem_cons_of_mem _ m)
theorem cs_list {ts : List Str} (g : ∀ t ∈ ts, Cs t) : Cs (listText ts) := (cs_from ts 0 _ (cs_of _) g).app (cs_of _)
theorem cs_join : ∀ (ts : List Str), (∀ t ∈ ts, Cs t) → Cs (Str.join ", " ts)
  | [], _ => cs_of ""
  | [t], g => g t List.mem_cons_self
  | t :: u :: r, g => ((g t List.mem_cons_self).app (cs_of _)).app (cs_join (u :: r) fun x m => g x (List.mem_cons_of_mem _ m))
theorem cs_tuple {ts : List Str} (g : ∀ t ∈ ts, Cs t) : Cs (tupleText ts) := ((cs_of "(").app (cs_join ts g)).app (cs_of _)
theorem cs_dict {ts : List Str} (g : ∀ t ∈ ts, Cs t) : Cs (dictText ts) := ((cs_of "{").app (cs_join ts g)).app (cs_of _)
theorem cs_char {q c : Nat} (hq : q < 16 ^ 8) (hc : c < 16 ^ 8) : ∀ x ∈ Builtin.Str.reprChar q c, x < 16 ^ 8 := by
  have hx : ∀ (n : Nat), ∀ x ∈ (List.replicate (n - ((Nat.toDigits 16 c).map Char.toNat).length) 48 ++ (Nat.toDigits 16 c).map Char.toNat), x < 16 ^ 8 := by
    intro n x m
    rcases List.mem_append.mp m with m | m
    · have := (List.mem_replicate.mp m).2
      subst this
      decide
    · obtain ⟨y, _, rfl⟩ := List.mem_map.mp m
      exact y.val.toNat_lt
  have small : ∀ {x a b : Nat}, x ∈ [a, b] → a < 16 ^ 8 → b < 16 ^ 8 → x < 16 ^ 8 := by
    intro x a b m h1 h2
    rcases List.mem_cons.mp m with rfl | m
    · exact h1
    · rcases List.mem_cons.mp m with rfl | m
      · exact h2
      · cases m
  intro x m
  unfold Builtin.Str.reprChar at m
  dsimp only at m
  repeat' split at m
  all_goals first
    | exact small m (by decide) hc
    | exact small m (by decide) (by decide)
    | (rcases List.mem_cons.mp m with rfl | m
       · exact hc
       · cases m)
    | (rcases List.mem_append.mp m with m | m
       · exact small m (by decide) (by decide)
       · exact hx _ x m)
theorem cs_repr {x : Str} (h : Cs x) : Cs (reprText x) := by
  have hq : reprQuote x < 16 ^ 8 := by
    unfold reprQuote
    split <;> decide
  have key : ∀ (l : List Nat) (acc : Array Nat), (∀ c ∈ l, c < 16 ^ 8) → (∀ c ∈ acc.toList, c < 16 ^ 8) → ∀ c ∈ (l.foldl (fun out c => out ++ (Builtin.Str.reprChar (reprQuote x) c).toArray) acc).toList, c < 16 ^ 8 := by
    intro l
    induction l with
    | nil => intro acc _ h; exact h
    | cons a l ih =>
      intro acc h1 h2
      refine ih _ (fun c m => h1 c (List.mem_cons_of_mem _ m)) ?_
      intro c m
      rw [Array.toList_append] at m
      rcases List.mem_append.mp m with m | m
      · exact h2 c m
      · exact cs_char hq (h1 a List.mem_cons_self) c (by simpa using m)
  intro c m
  unfold reprText at m
  have m : c ∈ ((x.cps.foldl (fun out c => out ++ (Builtin.Str.reprChar (reprQuote x) c).toArray) #[reprQuote x]).push (reprQuote x)).toList := m
  rw [← Array.foldl_toList, Array.toList_push] at m
  rcases List.mem_append.mp m with m | m
  · exact key _ _ h (by intro c m; simp at m; rw [m]; exact hq) c m
  · simp at m
    rw [m]
    exact hq
/-- shown with at most w signs, at most k deep -/
structure Gd (w k : Nat) (d : D) : Prop where
  pl : plainR d = true
  sh : (toP d).showable = true
  dp : (toP d).depth ≤ k
  ln : (toP d).shown.length ≤ w
  cs : Cs (toP d).shown
  le : ∀ ds, seqOf d = some ds → ds.length ≤ 1000
theorem Gd.mono {w k w' k' : Nat} {d : D} (g : Gd w k d) (h : w ≤ w') (h' : k ≤ k') : Gd w' k' d := ⟨g.pl, g.sh, Nat.le_trans g.dp h', Nat.le_trans g.ln h, g.cs, g.le⟩
theorem Gd.show {w k : Nat} {d : D} (g : Gd w k d) (h : w ≤ 16777216 := by decide) (h' : k ≤ 64 := by decide) : showR d := ⟨g.pl, g.sh, Nat.le_trans g.dp h', Nat.le_trans g.ln (by rw [sizeLine_eq]; exact h)⟩
theorem gd_non : Gd 100 0 .non := ⟨rfl, rfl, by decide +kernel, by decide +kernel, cs_of "None", fun _ h => by cases h⟩
theorem gd_bl (b : Bool) : Gd 100 0 (.bl b) := ⟨rfl, rfl, by cases b <;> decide +kernel, by cases b <;> decide +kernel, by cases b <;> exact cs_of _, fun _ h => by cases h⟩
theorem gd_int {i : Int} (h : Bd 250 i) : Gd 100 0 (.int i) := by
  have h10 : i.natAbs < 10 ^ 76 := Nat.lt_of_lt_of_le h (by decide)
  have l := int_text_length_le10 (k := 76) (by decide) h10
  refine ⟨rfl, ?_, ?_, ?_, cs_of _, fun _ h => by cases h⟩
  · simp only [toP, PyData.showable]
    exact decide_eq_true (PySem.Flt.log2_lt_of (by decide) (h.mono (m := 1920) (by decide)))
  · simp only [toP, PyData.depth]; decide
  · show (Str.ofString (toString i)).length ≤ 100
    rw [PySem.ofString_length]
    omega
theorem gd_str {x : Str} {n : Nat} (h : x.length ≤ n) (c : Cs x) : Gd (10 * n + 2) 0 (.str x) := by
  refine ⟨rfl, rfl, ?_, ?_, cs_repr c, fun _ h => by cases h⟩
  · simp only [toP, PyData.depth]; decide
  · show (reprText x).length ≤ _
    have := StrLaws.reprText_len x c
    omega
theorem gds {w k : Nat} : ∀ ds : List D, (∀ d ∈ ds, Gd w k d) → plainRs ds = true ∧ PyData.showableAll (toPs ds) = true ∧ PyData.depthAll (toPs ds) ≤ k ∧ ((PyData.shownAll (toPs ds)).map (·.length)).sum ≤ w * ds.length ∧ (PyData.shownAll (toPs ds)).length = ds.length ∧ ∀ t ∈ PyData.shownAll (toPs ds), Cs t
  | [], _ => by refine ⟨rfl, rfl, ?_, ?_, ?_, ?_⟩ <;> simp [toPs, PyData.shownAll, PyData.depthAll]
  | d :: ds, h => by
    obtain ⟨h1, h2, h3, h4, h5, h6⟩ := gds ds fun x m => h x (List.mem_cons_of_mem _ m)
    have g := h d List.mem_cons_self
    refine ⟨?_, ?_, ?_, ?_, ?_, ?_⟩
    · show (plainR d && plainRs ds) = true
      rw [g.pl, h1]; rfl
    · show PyData.showableAll (toP d :: toPs ds) = true
      simp only [PyData.showableAll, g.sh, h2, Bool.and_self]
    · show PyData.depthAll (toP d :: toPs ds) ≤ k
      have := g.dp
      simp only [PyData.depthAll]
      omega
    · show ((PyData.shownAll (toP d :: toPs ds)).map (·.length)).sum ≤ _
      have := g.ln
      simp only [PyData.shownAll, List.map_cons, List.sum_cons, List.length_cons, Nat.mul_succ]
      omega
    · show (PyData.shownAll (toP d :: toPs ds)).length = _
      simp only [PyData.shownAll, List.length_cons, h5]
    · show ∀ t ∈ PyData.shownAll (toP d :: toPs ds), Cs t
      intro t m
      simp only [PyData.shownAll, List.mem_cons] at m
      rcases m with rfl | m
      · exact g.cs
      · exact h6 t m
theorem gd_lst {w k n : Nat} {ds : List D} (h : ∀ d ∈ ds, Gd w k d) (hl : ds.length ≤ n) (hn : n ≤ 1000 := by decide) : Gd ((w + 2) * n + 4) (k + 1) (.lst ds) := by
  obtain ⟨h1, h2, h3, h4, h5, h6⟩ := gds ds h
  have m : (w + 2) * ds.length ≤ (w + 2) * n := Nat.mul_le_mul_left _ hl
  refine ⟨h1, ?_, ?_, ?_, ?_, fun _ e => by cases e; omega⟩
  · simpa only [toP, PyData.showable] using h2
  · simp only [toP, PyData.depth]; omega
  · have q := listText_len_le (PyData.shownAll (toPs ds))
    rw [show (toP (.lst ds)).shown = listText (PyData.shownAll (toPs ds)) by simp only [toP, PyData.shown]]
    rw [Nat.add_mul] at m
    omega
  · rw [show (toP (.lst ds)).shown = listText (PyData.shownAll (toPs ds)) by simp only [toP, PyData.shown]]
    exact cs_list h6
theorem gd_tup {w k n : Nat} {ds : List D} (h : ∀ d ∈ ds, Gd w k d) (hl : ds.length ≤ n) (hn : n ≤ 1000 := by decide) : Gd ((w + 2) * n + 4) (k + 1) (.tup ds) := by
  obtain ⟨h1, h2, h3, h4, h5, h6⟩ := gds ds h
  have m : (w + 2) * ds.length ≤ (w + 2) * n := Nat.mul_le_mul_left _ hl
  refine ⟨h1, ?_, ?_, ?_, ?_, fun _ e => by cases e; omega⟩
  · simpa only [toP, PyData.showable] using h2
  · simp only [toP, PyData.depth]; omega
  · have q := tupleText_len_le (PyData.shownAll (toPs ds))
    rw [show (toP (.tup ds)).shown = tupleText (PyData.shownAll (toPs ds)) by simp only [toP, PyData.shown]]
    rw [Nat.add_mul] at m
    omega
  · rw [show (toP (.tup ds)).shown = tupleText (PyData.shownAll (toPs ds)) by simp only [toP, PyData.shown]]
    exact cs_tuple h6
/-- the parts of what is plain are typed -/
theorem typed_of {d : D} (h : plainR d = true) : typed d = true := by
  cases d <;> first | rfl | cases h
theorem plainRs_mem : ∀ {ds : List D}, plainRs ds = true → ∀ d ∈ ds, plainR d = true
  | [], _, _, m => by cases m
  | x :: ds, h, d, m => by
    have h : (plainR x && plainRs ds) = true := h
    obtain ⟨h1, h2⟩ := Bool.and_eq_true_iff.mp h
    rcases List.mem_cons.mp m with rfl | m
    · exact h1
    · exact plainRs_mem h2 d m
end DL
set_option Elab.async false
set_option linter.all false
set_option maxRecDepth 100000
set_option maxHeartbeats 2000000
/-! for i, x in enumerate(t), t a tuple -/
namespace PySem
open Sem (wp)
/-- enumerate(v) begins, whatever iter(v) is -/
theorem enumStartsOver {v : Value} {o : Obj} {G : Heap → Prop} (B : Begins v o G) :
    Meets (Builtin.«enumerate.__new__» ⟨[.type "enumerate", v], []⟩) (fun _ R s => G s.heap ∧
      R (.ok (.ret (.ref (s.heap.push o).objs.size))) { s with heap := (s.heap.push o).push { cls := .type "enumerate", data := .fields #[.none, .bool false, .ref s.heap.objs.size, rawInt 0, .none, .none] } }) :=
  .of_wp fun prog w A R s h => by
    obtain ⟨hp, g, d, tk, os⟩ := s
    obtain ⟨h0, h⟩ := h
    have hsub := sub_enumerate
    have begin_ : ∀ {A' : Around} {E : Value → Shared → Prop} {Q : Value → Shared → Prop}, Q (.ref hp.objs.size) ⟨hp.push o, g, d, tk, os⟩ → wpAny (model prog w) A' (pyIter v) Q E ⟨hp, g, d, tk, os⟩ :=
      fun q => B.iter prog w _ _ ⟨hp, g, d, tk, os⟩ _ h0 q
    wp_walk
    refine wpAny_stack_any fun st => wpAny_pure ?_
    split
    · rename_i c _ _ _ _ _
      cases (c == Value.type "enumerate") <;>
      · wp_walk using begin_
        exact ⟨_, rfl, h⟩
    · wp_walk using begin_
      exact ⟨_, rfl, h⟩
section
variable {prog : Program} {w : World} {A : Around} {E : Value → Shared → Prop} {s : Shared}
theorem enumTupleBegins {t : Addr} {items : Array Value} {Q : Value → Shared → Prop} (hT : s.heap.IsTuple t items)
    (h : ∀ h', IsEnum h' (s.heap.objs.size + 1) s.heap.objs.size 0 .none → h'.IsTupleIter s.heap.objs.size t 0 → h'.objs.size = s.heap.objs.size + 2 →
      (∀ b o, s.heap.get? b = some o → h'.get? b = some o) → Q (.ref (s.heap.objs.size + 1)) { s with heap := h' }) :
    wpAny (model prog w) A (call (.type "enumerate") [.ref t]) Q E s := by
  refine callType_new F.called_enumerate (by decide) (F.typeCall_enumerate_1 _) (F.newCall_enumerate_1 _) (fun obj => F.args_object_init_2 obj _) F.entry_enumerate_new
    (enumStartsOver (begins_tuple t items)) ⟨hT, ?_⟩
  generalize hg1 : s.heap.push { cls := .type "tuple_iterator", data := .fields #[.ref t, .int 0 0] } = g1
  have z1 : g1.objs.size = s.heap.objs.size + 1 := by rw [← hg1]; exact Heap.size_push ..
  have it1 : g1.get? s.heap.objs.size = some { cls := .type "tuple_iterator", data := .fields #[.ref t, .int 0 0] } := by rw [← hg1]; exact Heap.get?_push_size _ rfl
  have k1 : ∀ b o, s.heap.get? b = some o → g1.get? b = some o := fun b o e => by rw [← hg1]; exact Heap.get?_push_of_some _ e
  generalize hg2 : g1.push { cls := .type "enumerate", data := .fields #[.none, .bool false, .ref s.heap.objs.size, rawInt 0, .none, .none] } = g2
  have z2 : g2.objs.size = s.heap.objs.size + 2 := by rw [← hg2, Heap.size_push, z1]
  have e2 : g2.get? (s.heap.objs.size + 1) = some { cls := .type "enumerate", data := .fields #[.none, .bool false, .ref s.heap.objs.size, rawInt 0, .none, .none] } := by
    rw [← hg2, ← z1]; exact Heap.get?_push_size _ rfl
  have k2 : ∀ b o, g1.get? b = some o → g2.get? b = some o := fun b o e => by rw [← hg2]; exact Heap.get?_push_of_some _ e
  show _ ∧ _
  rw [z1]
  exact ⟨⟨_, e2, rfl⟩, h g2 e2 ⟨_, k2 _ _ it1, rfl, rfl⟩ z2 fun b o e => k2 b o (k1 b o e)⟩
end
end PySem
namespace L2
open PySem PySem.Spec PyProof.Rows
/-- the tuple at a, each item in a new pair behind its place -/
def ItP (K : PySem.W.Frag) (a : Addr) : It where
  go := fun i H => ∃ (xs : List V) (x : V), SqT K H a xs ∧ xs[i]? = some x
  yld := fun i H v H' => ∃ T x, v = .ref T ∧ H T = none ∧ H' = upd H T (.tup [.int (i : Nat), x]) ∧ ∀ xs, SqT K H a xs → xs[i]? = some x
  stop := fun i H => ∃ xs : List V, SqT K H a xs ∧ xs.length = i
theorem tup_ne {h : Heap} {a b : Addr} {vs : Array Value} {o : Obj} (t : h.IsTuple a vs) (e : h.get? b = some o) (n : o.cls ≠ .type "tuple") : a ≠ b := by
  rintro rfl
  obtain ⟨o2, p2, c2, _⟩ := t
  rw [e] at p2
  cases p2
  exact n c2
theorem tup_nit {h : Heap} {a it : Addr} {i : Nat} {vs : Array Value} (t : h.IsTuple a vs) (q : h.IsTupleIter it a i) : a ≠ it := by
  obtain ⟨o1, p1, c1, _⟩ := q
  exact tup_ne t p1 (by rw [c1]; decide)
theorem two_mem {b e it : Addr} (h : b ∈ [e, it]) : b = e ∨ b = it := by simpa using h
theorem turnP {P : Program} {w : World} {K : PySem.W.Frag} {elts : List Expr} {kk : Nat} {tpos : Pos} (a e it : Addr) :
    Turn P w K (.Tuple elts kk tpos) (ItP K a) [e, it] e (fun i h => (∃ old, IsEnum h e it ((i : Nat) : Int) old) ∧ h.IsTupleIter it a i ∧ e ≠ it) where
  mem := List.mem_cons_self
  obj := fun i h st b hb => by
    obtain ⟨⟨_, he⟩, ⟨o, ho, _, hd⟩, _⟩ := st
    rcases two_mem hb with rfl | rfl
    · exact ⟨_, he, fun _ q => nomatch q⟩
    · exact ⟨o, ho, fun _ q => by rw [hd] at q; cases q⟩
  keep := fun i h h' st k => by
    obtain ⟨⟨old, he⟩, hi, hne⟩ := st
    exact ⟨⟨old, k e List.mem_cons_self _ he⟩, hi.at fun o q => k it (by simp) o q, hne⟩
  item := by
    intro X hP hw hK hc i pins s σ H E I hf st hg
    subst hP hw hK
    obtain ⟨⟨old, he⟩, hit, hne⟩ := st
    obtain ⟨xs, x, sq, hx⟩ := hg
    obtain ⟨its, vals, tup, _⟩ := I.tuple sq
    obtain ⟨u, hu, ru⟩ := vals.get hx
    have le := Heap.lt_size he
    have li : it < s.heap.objs.size := by obtain ⟨_, q, _⟩ := hit; exact Heap.lt_size q
    have tup : s.heap.IsTuple a its.toArray := tup
    have ai := tup_nit tup hit
    have ae : a ≠ e := tup_ne tup he (show Value.type "enumerate" ≠ Value.type "tuple" by decide)
    have hi : i < its.toArray.size := by
      have := (List.getElem?_eq_some_iff.mp hu).1
      simpa using this
    have eu : ∀ y, its.toArray[i]? = some y → y = u := fun y hy => by
      have : its[i]? = some y := by simpa using hy
      rw [hu] at this
      exact (Option.some.inj this).symm
    refine wpAny_pyNext_enum_itemD (Draws.tuple (A := X.A.in1) (I.ok.hd hc) it a ai its.toArray) he ⟨hit, tup⟩ hi hne (fun m => (two_mem m).elim hne (Ne.symm ae)) fun y h' tk hy out st' hT hsz hk => ?_
    cases eu y hy
    refine ⟨_, rfl, wpAny_letOwnedTupleGo_enum (s := { s with heap := h', toks := tk + 1 }) out fun h'' he' sb => ?_⟩
    have hT2 : h''.get? s.heap.objs.size = some { cls := .type "tuple", data := .seq #[.int i tk, u] } := (sb.2 _ (Nat.ne_of_gt le)).trans hT
    have fresh : ObjOk X.prog X.w (upd H s.heap.objs.size (.tup [.int (i : Nat), x])) h'' s.heap.objs.size (.tup [.int (i : Nat), x]) :=
      ⟨by show 2 ≤ sizeLine; decide, [.int i tk, u], .cons ⟨_, rfl⟩ (.cons ru .nil), ⟨_, hT2, rfl, _, rfl⟩⟩
    have kept : ∀ b ob, b ∉ [e, it] → s.heap.get? b = some ob → h''.get? b = some ob := fun b ob hb q => by
      have b1 : b ≠ e := fun z => hb (by simp [z])
      have b2 : b ≠ it := fun z => hb (by simp [z])
      exact (sb.2 b b1).trans (hk b ob b1 b2 q)
    have J := I.turnedNew (ch := [e, it]) (t' := tk + 1) kept hf (Nat.le_refl _) fresh
    refine ⟨.ref s.heap.objs.size, _, J, rfl, ⟨_, x, rfl, I.hok.fresh (Nat.le_refl _), rfl, fun ys hy => by rw [I.tuple_inj hy sq]; exact hx⟩, ⟨⟨u, ?_⟩, st'.1.at fun o q => (sb.2 it (Ne.symm hne)).trans q, hne⟩, fun b hb => ?_⟩
    · rw [show ((i + 1 : Nat) : Int) = (i : Int) + 1 by omega]
      exact he'
    · have lb : b < s.heap.objs.size := by
        rcases two_mem hb with rfl | rfl
        · exact le
        · exact li
      rw [upd_ne (Nat.ne_of_lt lb)]
      exact (hf b hb).1
  done := by
    intro X hP hw hK hc i pins s σ H E I hf st hg
    subst hP hw hK
    obtain ⟨⟨old, he⟩, hit, hne⟩ := st
    obtain ⟨xs, sq, hx⟩ := hg
    obtain ⟨its, vals, tup, _⟩ := I.tuple sq
    have tup : s.heap.IsTuple a its.toArray := tup
    have n_ : its.toArray.size = i := by rw [← hx, vals.length]; simp
    obtain ⟨f0, f1, f2, f3, f4, f5⟩ := hf it (by simp)
    refine wpAny_pyNext_enum_endD (Draws.tuple (A := X.A.in1) (I.ok.hd hc) it a (tup_nit tup hit) its.toArray) he ⟨by rw [n_]; exact hit, tup⟩ fun h' eb => ⟨rfl, I.turned (t' := s.toks) (fun b o hb q => eb b o hb q) f0 f1 f3 f4 f5⟩
  self := fun A i s Q E st h => let ⟨⟨_, he⟩, _⟩ := st; wpAny_pyIter_enum he h
/-- enumerate(e), e a tuple -/
def iEnumP (K : PySem.W.Frag) (ta : TA) : TI := fun σ H R => ta σ H fun vs H1 => ∃ (a : Addr) (xs : List V), vs = [.ref a] ∧ SqT K H1 a xs ∧ R (ItP K a) H1
theorem pi_enumP {X : Cx} {e : Expr} {ta : TA} {p pos tpos : Pos} {elts : List Expr} {kk : Nat} (hg : Gl X "enumerate") (hm : X.mg "enumerate" = none) (ha : PA X [e] ta) (hs : starEach [e] X.env = [(false, eval e X.env)] := by rfl) :
    PI X (.Tuple elts kk tpos) (.Call (.Name "enumerate" p) [e] [] pos) (iEnumP X.K ta) := by
  refine ⟨fun pins s σ H R I want => Call_ (ld_blt I hg hm boot_enumerate (PyProof.Rows.callWith_type1 (thn (ha.run pos pins s σ H _ I want) fun us s1 got => ?_) hs rfl))⟩
  obtain ⟨vs, H1, I1, r1, a, xs, rfl, sq, q⟩ := got
  obtain ⟨its, vals, tup, _⟩ := I1.tuple sq
  cases r1 with
  | cons r rr =>
    cases rr
    cases r
    refine enumTupleBegins (t := a) (items := its.toArray) tup fun h' he hit _ hk => wpAny_pyIter_enum he ?_
    have J : Inv X pins σ H1 { s1 with heap := h' } := I1.kept (t' := s1.toks) hk
    refine ⟨s1.heap.objs.size + 1, [s1.heap.objs.size + 1, s1.heap.objs.size], _, _, H1, rfl, J, turnP a _ _, ⟨⟨.none, he⟩, hit, Nat.succ_ne_self _⟩, fun b hb => ?_, q⟩
    have above : s1.heap.objs.size ≤ b := by
      rcases two_mem hb with rfl | rfl
      · exact Nat.le_succ _
      · exact Nat.le_refl _
    exact I1.fpOk above (I1.hok.fresh above)
theorem walkP {K : PySem.W.Frag} {a : Addr} {xs : List V} : Walk (ItP K a) xs.length (fun H => SqT K H a xs) (YPair (fun i => some (.int (i : Nat))) (fun i => xs[i]?)) := by
  refine ⟨fun i _ hi q => ⟨xs, xs[i], q, List.getElem?_eq_getElem hi⟩, fun _ q => ⟨xs, q, rfl⟩, ?_⟩
  rintro i H v H' _ q ⟨T, x, h1, h2, h3, h4⟩
  exact ⟨T, .int (i : Nat), x, h1, h2, h3, rfl, h4 xs q⟩
end L2
namespace DL
open PySem PySem.Spec L2
open PyProof.Rows hiding St
/-- the items behind their places -/
def enumD : Nat → List D → List D
  | _, [] => []
  | i, d :: ds => .tup [.int (i : Nat), d] :: enumD (i + 1) ds
theorem enumD_len : ∀ {ds : List D} {i : Nat}, (enumD i ds).length = ds.length
  | [], _ => rfl
  | _ :: ds, i => by
    show (enumD (i + 1) ds).length + 1 = ds.length + 1
    rw [enumD_len]
theorem enumD_get : ∀ {ds : List D} {i j : Nat} {d : D}, ds[j]? = some d → (enumD i ds)[j]? = some (.tup [.int ((i + j : Nat) : Int), d])
  | [], _, _, _, h => by simp at h
  | x :: ds, i, 0, d, h => by
    cases h
    rfl
  | x :: ds, i, j + 1, d, h => by
    show (enumD (i + 1) ds)[j]? = _
    rw [enumD_get (by simpa using h), show i + 1 + j = i + (j + 1) by omega]
/-- for i, x in enumerate(t) -/
def dForE (T : TDA) (G : TDG) (B : TDS) : TDS := fun ξ De env => T ξ env fun ds => match ds with
  | [.tup xs] => forD G B ξ De (enumD 0 xs) env
  | _ => False
section
variable {X : Cx} {F : FP} {Tas : TDA} {G : TDG} {B : TDS}
theorem ds_forE {e : Expr} {elts : List Expr} {kk : Nat} {p pos pos' tpos : Pos} {body : List Stmt} (hK : F.K = X.K) (hp : PassesOwn (model X.prog X.w) X.A X.env X.xe) (hc : X.calm = true) (hgl : Gl X "enumerate") (hm : X.mg "enumerate" = none) (ha : PA X [e] (tDA F Tas)) (hg : PG X (.Tuple elts kk tpos) (gD F G)) (hb : PSs X body (sD F B))
    (hsa : starEach [e] X.env = [(false, eval e X.env)] := by rfl) (hs : ∀ x, foldedSetIterable (.Call (.Name "enumerate" p) [e] [] pos') X.env x = pure x := by intro _; rfl) : PS X (.For (.Tuple elts kk tpos) (.Call (.Name "enumerate" p) [e] [] pos') body [] pos) (sD F (dForE Tas G B)) := PS.imp (ps_for hp hc (pi_enumP hgl hm ha hsa) hg hb hs) (by
  rintro De σ H ⟨N, env, Dd, f, hT, ok⟩
  refine ⟨N, env, _, f, hT, fun vs H1 ds e1 r q => ?_⟩
  split at q
  · rename_i xs
    obtain ⟨v, _, rfl, ⟨a, us, rfl, ra, rs⟩, rfl⟩ := r
    have f1 := f.ext' e1
    have ok1 := ok.of (.of f.n e1)
    refine ⟨a, us, rfl, by rw [← hK]; exact sqt_of ra, ?_⟩
    refine for_it (walkP (K := X.K) (a := a) (xs := us)) (fun i σ H' => ∃ N' env', FOk F N' σ H' env' ∧ Evo N H1 N' H' ∧ forD G B F.ex Dd ((enumD 0 xs).drop i) env') ⟨N, env, f1, .refl, q⟩ ?_ ?_ ?_
    · rintro i σ' H' _ ⟨N', env', f', ev, _⟩
      rw [← hK]
      refine sqt_of (N := N') ?_
      rcases ra with ⟨n, ra⟩ | ra
      · obtain ⟨h1, h2⟩ := ev a _ n kp_tup ra
        exact .inl ⟨h2, h1⟩
      · exact .inr ra
    · rintro i x σ' H' H2 hi ⟨N', env', f', ev, q'⟩ ⟨T, x', y', rfl, hT', rfl, g1, g2⟩
      cases g1
      obtain ⟨d, hd, rd⟩ := rs.getV g2
      have lT := f'.n.lay (o := .tup [.int (i : Nat), y']) hT'
      have f2 := f'.ext' lT
      have rd' := Rep.mono ev d y' rd
      have r2 : Rep F.K F.Z N' (upd H' T (.tup [.int (i : Nat), y'])) (.tup [.int ((0 + i : Nat) : Int), d]) (.ref T) := by
        rw [Nat.zero_add]
        exact rep_newT f'.n hT' ⟨_, _, rfl, rep_int, _, _, rfl, rd', rfl⟩
      exact forD_step (fun _ _ _ => Iff.rfl) ok1 f2 (ev.trans (.of f'.n lT)) (enumD_get (i := 0) hd) r2 q'
    · rintro σ' H' ⟨N', env', f', ev, q'⟩
      rw [← rs.length, show xs.length = (enumD 0 xs).length from enumD_len.symm, List.drop_length] at q'
      exact ok1.nx _ _ _ _ f' ev q'
  · exact q.elim)
end
end DL
set_option Elab.async false
set_option linter.all false
set_option maxRecDepth 100000
set_option maxHeartbeats 2000000
/-! tuples just displayed whose objects are known; in and index over data; constants of the module -/
namespace DL
open PySem PySem.Spec L2
open PyProof.Rows hiding St
section
variable {X : Cx} {F : FP} {a b e : Expr} {es : List Expr} {Ta Tb : TDE} {Tas : TDA} {pos p : Pos}
/-- a display whose object is told -/
def tTupF (t : TA) : TE := fun σ H Q => t σ H fun xs H1 => xs.length ≤ sizeLine ∧ ∀ (q : Addr) (o : Obj), o.dict = none → H1 q = none → Q (.ref q) (upd H1 q (.frz o (.tup xs)))
theorem pe_tupF {x1 : _} {t : TA} (h : PA X es t) : PE X (.Tuple es x1 pos) (tTupF t) := by
  refine ⟨fun pins s σ H Q I hq => wpAny_Tuple_spliced (thn (h.run pos pins s σ H _ I hq) fun us s1 got => ?_)⟩
  obtain ⟨xs, H1, I1, r, small, q⟩ := got
  refine ⟨by rw [← r.length]; exact small, ?_⟩
  have free := I1.hok.fresh (Nat.le_refl s1.heap.objs.size)
  generalize ho : ({ cls := .type "tuple", data := .seq us.toArray } : Obj) = o
  have at_ : (s1.heap.push o).get? s1.heap.objs.size = some o := Heap.get?_push_size _ (by rw [← ho]; rfl)
  have new : ObjOk X.prog X.w (upd H1 s1.heap.objs.size (.frz o (.tup xs))) (s1.heap.push o) s1.heap.objs.size (.frz o (.tup xs)) :=
    ⟨at_, small, us, r, ⟨o, at_, by rw [← ho], _, by rw [← ho]⟩⟩
  have J := I1.laid (t' := s1.toks) (fun _ _ e => Heap.get?_push_of_some _ e) (Nat.le_refl _) new
  subst ho
  exact ⟨.ref s1.heap.objs.size, _, J, rfl, q _ _ rfl free⟩
/-- a tuple displayed, its object known -/
def dTupK (T : TDA) : TDE := fun ξ env Q => T ξ env fun ds => ds.length ≤ sizeLine ∧ Q (.kt ds)
theorem d_tupK {x1 : _} (h : PA X es (tDA F Tas)) : PE X (.Tuple es x1 pos) (tD F (dTupK Tas)) := PE.imp (pe_tupF h) (by
  rintro σ H Q ⟨N, env, Qd, f, hT, k⟩
  refine ⟨N, env, _, f, hT, fun vs H1 ds e1 r1 q1 => ⟨by rw [← r1.length]; exact q1.1, fun q o od hq => ?_⟩⟩
  have n := (f.ext' e1).n
  refine k _ _ (.kt ds) (e1.trans (n.lay hq)) ⟨q, vs, o, rfl, n.fresh hq, upd_same, od, r1.ext (n.lay hq) n.z⟩ q1.2)
/-- what can be walked as a tuple or a list, compared -/
def itemsD : D → Option (List D)
  | .tup ds => some ds
  | .kt ds => some ds
  | .lst ds => some ds
  | _ => none
def inD (d : D) (ds : List D) : Bool := (toPs ds).any fun z => PyData.eqv z (toP d)
def gInD (neg : Bool) : G2 := fun x y Q => match itemsD y with
  | some ds => (eqOk x = true ∧ eqOk y = true) ∧ Q (.bl (if neg then !inD x ds else inD x ds))
  | none => False
def rInT (K : PySem.W.Frag) (neg : Bool) : R2 := fun x y H Q => ∃ d ds, Dp K H x d ∧ (Dp K H y (.tuple ds) ∨ Dp K H y (.list ds)) ∧ SeqAt.shaped d = true ∧ SeqAt.shaped (.tuple ds) = true ∧ Q (.bl (if neg then !(ds.any fun z => PyData.eqv z d) else ds.any fun z => PyData.eqv z d)) H
theorem shaped_tl {ds : List PyData} : SeqAt.shaped (.list ds) = SeqAt.shaped (.tuple ds) := by
  simp only [SeqAt.shaped, PyData.canLay0, PyData.depth]
  rfl
theorem op_inT (hu : X.A.units + 65 < cLine) : OpR X (compareOp .In) (rInT X.K false) := by
  intro pins s σ H x y v u Q I rx ry h
  obtain ⟨d, ds, hd, he, sd, se, q⟩ := h
  obtain ⟨as, r1⟩ := Dp.reads I d x v hd rx
  rcases he with he | he
  · obtain ⟨bs, r2⟩ := Dp.reads I (.tuple ds) y u he ry
    exact SeqAt.in_tuple_reads r2 r1 (SeqAt.canLay_of_shaped se) (SeqAt.canLay_of_shaped sd) (room_in_shaped sd hu) ⟨.bl _, H, I, rfl, q⟩
  · obtain ⟨bs, r2⟩ := Dp.reads I (.list ds) y u he ry
    exact SeqAt.in_list_reads r2 r1 (SeqAt.canLay_of_shaped se) (SeqAt.canLay_of_shaped sd) (room_in_shaped sd hu) ⟨.bl _, H, I, rfl, q⟩
theorem op_ninT (hu : X.A.units + 65 < cLine) : OpR X (compareOp .NotIn) (rInT X.K true) := by
  intro pins s σ H x y v u Q I rx ry h
  obtain ⟨d, ds, hd, he, sd, se, q⟩ := h
  obtain ⟨as, r1⟩ := Dp.reads I d x v hd rx
  rcases he with he | he
  · obtain ⟨bs, r2⟩ := Dp.reads I (.tuple ds) y u he ry
    exact SeqAt.notIn_tuple_reads r2 r1 (SeqAt.canLay_of_shaped se) (SeqAt.canLay_of_shaped sd) (room_in_shaped sd hu) ⟨.bl _, H, I, rfl, q⟩
  · obtain ⟨bs, r2⟩ := Dp.reads I (.list ds) y u he ry
    exact SeqAt.notIn_list_reads r2 r1 (SeqAt.canLay_of_shaped se) (SeqAt.canLay_of_shaped sd) (room_in_shaped sd hu) ⟨.bl _, H, I, rfl, q⟩
theorem opd_inD (neg : Bool) : OpD F (rInT F.K neg) (gInD neg) := ⟨by
  intro N H x y dx dy Qd Q n rx ry h k
  unfold gInD at h
  split at h
  · rename_i ds hds
    obtain ⟨⟨h1, h2⟩, q⟩ := h
    obtain ⟨p1, s1⟩ := Bool.and_eq_true_iff.mp h1
    obtain ⟨p2, s2⟩ := Bool.and_eq_true_iff.mp h2
    have r1 := Rep.dp dx x p1 rx
    have r2 := Rep.dp dy y p2 ry
    cases dy <;> first | (cases hds; done) | skip
    · cases hds
      exact ⟨_, toPs ds, r1, .inl r2, s1, s2, k _ _ _ Ext.refl rep_bl q⟩
    · cases hds
      exact ⟨_, toPs ds, r1, .inr r2, s1, by rw [← shaped_tl]; exact s2, k _ _ _ Ext.refl rep_bl q⟩
    · cases hds
      exact ⟨_, toPs ds, r1, .inl r2, s1, s2, k _ _ _ Ext.refl rep_bl q⟩
  · exact h.elim⟩
theorem d_inD (hK : F.K = X.K) (hu : X.A.units + 65 < cLine) (ha : PE X a (tD F Ta)) (hb : PE X b (tD F Tb)) (hm : behindInMarks .In b = false := by rfl) : PE X (.Compare a [.In] [b] pos) (tD F (dBin (gInD false) Ta Tb)) := by
  have o := opd_inD (F := F) false
  rw [hK] at o
  exact d_cmp (op_inT hu) o ha hb hm
theorem dt_inD (hK : F.K = X.K) (hu : X.A.units + 65 < cLine) (ha : PE X a (tD F Ta)) (hb : PE X b (tD F Tb)) (hm : behindInMarks .In b = false := by rfl) : PT X (.Compare a [.In] [b] pos) (tDT F (dTest (dBin (gInD false) Ta Tb))) := by
  have o := opd_inD (F := F) false
  rw [hK] at o
  exact dt_cmp (op_inT hu) o ha hb hm
theorem d_ninD (hK : F.K = X.K) (hu : X.A.units + 65 < cLine) (ha : PE X a (tD F Ta)) (hb : PE X b (tD F Tb)) (hm : behindInMarks .NotIn b = false := by rfl) : PE X (.Compare a [.NotIn] [b] pos) (tD F (dBin (gInD true) Ta Tb)) := by
  have o := opd_inD (F := F) true
  rw [hK] at o
  exact d_cmp (op_ninT hu) o ha hb hm
theorem dt_ninD (hK : F.K = X.K) (hu : X.A.units + 65 < cLine) (ha : PE X a (tD F Ta)) (hb : PE X b (tD F Tb)) (hm : behindInMarks .NotIn b = false := by rfl) : PT X (.Compare a [.NotIn] [b] pos) (tDT F (dTest (dBin (gInD true) Ta Tb))) := by
  have o := opd_inD (F := F) true
  rw [hK] at o
  exact dt_cmp (op_ninT hu) o ha hb hm
/-! ### t.index(x), the tuple's object known -/
def idxD (d : D) (ds : List D) : Option Nat := (toPs ds).findIdx? fun z => PyData.eqv z (toP d)
def dIdx (Ta Tb : TDE) : TDE := fun ξ env Q => Ta ξ env fun x => match x with
  | .kt ds => Tb ξ env fun y => (eqOk x = true ∧ eqOk y = true) ∧ match idxD y ds with
    | some j => Q (.int (j : Nat))
    | none => False
  | _ => False
def rIdx (K : PySem.W.Frag) : V → V → Hp → VK → Prop := fun x y H Q => ∃ (a : Addr) (d : PyData) (ds : List PyData) (j : Nat), x = V.ref a ∧ Dp K H x (.tuple ds) ∧ Dp K H y d ∧
  SeqAt.shaped (.tuple ds) = true ∧ SeqAt.shaped d = true ∧ (ds.findIdx? fun z => PyData.eqv z d) = some j ∧ Q (.int (j : Nat)) H
theorem run_idx {pins : List (Addr × Obj)} {s : Shared} {σ : L2.St} {H : Hp} {x y : V} {v u : Value} {Q : VK} (hu : X.A.units + 65 < cLine) (I : L2.Inv X pins σ H s) (rx : RelV x v) (ry : RelV y u) (h : rIdx X.K x y H Q) :
    wpAny (model X.prog X.w) X.A (call (.builtin "tuple.index") [v, u]) (EP X pins σ Q) X.xe s := by
  obtain ⟨a, d, ds, j, rfl, hl, hy, sl, sd, hj, q⟩ := h
  cases rx
  obtain ⟨bs, r1⟩ := Dp.reads I d y u hy ry
  have lay := SeqAt.canLay_of_shaped sl
  cases hl with
  | tup hs ha =>
    obtain ⟨its, rv, ⟨⟨cls, dd, data, sls⟩, at_, hc, n, hdt⟩, _⟩ := I.tuple hs
    simp only at hc hdt
    subst hc hdt
    obtain ⟨as, rd⟩ := Dp.readsAll I ds _ its ha rv
    have same : its.map (SeqAt.readOf s.heap) = ds := SeqAt.readsAll_map ds its as lay rd
    obtain ⟨hjd, hit, hno⟩ := List.findIdx?_eq_some_iff_getElem.mp hj
    have el : ∀ (m : Nat) (hm : m < its.toArray.size) (hm2 : m < ds.length), SeqAt.readOf s.heap its.toArray[m] = ds[m] := by
      intro m hm hm2
      have hml : m < its.length := by simpa using hm
      have e1 : (its.map (SeqAt.readOf s.heap))[m]? = some ds[m] := by rw [same]; exact List.getElem?_eq_getElem hm2
      rw [List.getElem?_map, List.getElem?_eq_getElem hml] at e1
      simpa using Option.some.inj e1
    have len : its.length = ds.length := by rw [← same, List.length_map]
    have hja : j < its.toArray.size := by rw [List.size_toArray, len]; exact hjd
    refine call_meets PySem.F.slot_tuple_index ⟨_, at_, rfl⟩ PySem.F.entry_tuple_index (PySem.F.args_tuple_index_2 _ _)
      (TI.tuple_indexAt a its.toArray n dd sls u (fun w => PyData.eqv (SeqAt.readOf s.heap w) d) j hja ?_ ?_)
      ⟨at_, SeqAt.items_eqAt (vs := its.toArray) (show ReadsAll s.heap its.toArray.toList ds as from rd) r1 lay (SeqAt.canLay_of_shaped sd) (room_in_shaped sd hu), .int (j : Nat), H, I.tok _, ⟨_, rfl⟩, q⟩
    · show PyData.eqv (SeqAt.readOf s.heap its.toArray[j]) d = true
      rw [el j hja hjd]
      exact hit
    · intro m hm lt
      have hm2 : m < ds.length := by rw [← len]; simpa using hm
      show PyData.eqv (SeqAt.readOf s.heap its.toArray[m]) d = false
      rw [el m hm hm2]
      exact Bool.eq_false_iff.mpr (hno m lt)
def tIdx (K : PySem.W.Frag) (ta : TE) (t : TA) : TE := fun σ H Q => ta σ H fun x H1 => (∃ (a : Addr) (o : Obj) (vs : List V), x = .ref a ∧ H1 a = some (.frz o (.tup vs)) ∧ o.dict = none) ∧ t σ H1 fun ys H2 => ∃ y, ys = [y] ∧ rIdx K x y H2 Q
theorem pe_idx {o e : Expr} {to : TE} {t : TA} {apos cpos : Pos} (hu : X.A.units + 65 < cLine) (ho : PE X o to) (ha : PA X [e] t) (hbase : attributeBase o "index" X.env (eval o X.env) = eval o X.env := by rfl)
    (hfew : ((backTo cpos (starEach [e] X.env)).all (fun x => !x.1) && (backToKw cpos (keywordEach [] X.env)).all (fun x => x.1.isSome) && decide ([e].length + ([] : List Keyword).length + (if ([] : List Keyword).isEmpty then 0 else 1) < 30)) = true := by rfl)
    (hline : (apos.endLine == cpos.line) = true := by rfl) (hs : starEach [e] X.env = (false, eval e X.env) :: starEach [] X.env := by rfl) (hplain : (backTo cpos (starEach [] X.env)).any (·.1) = false := by rfl) :
    PE X (.Call (.Attribute o "index" apos) [e] [] cpos) (tIdx X.K to t) := by
  refine ⟨fun pins s σ H Q I h => wpAny_Call_method_late hbase hfew hline rfl (thn (ho.run pins s σ H _ I h) fun v s1 got => ?_)⟩
  obtain ⟨x, H1, I1, r1, ⟨a, ob, vs, rfl, hf, od⟩, q1⟩ := got
  cases r1
  obtain ⟨at_, _, its, _, o2, p2, c2, _⟩ := I1.hok a _ hf
  rw [at_] at p2
  cases p2
  refine ⟨"tuple", "tuple.index", PySem.F.plainAttrs_tuple, PySem.F.slot_tuple_index, PySem.F.type_tuple_index, ⟨_, at_, c2⟩, fun b eb => by cases eb; exact ⟨_, at_, od⟩, ?_⟩
  have args := ha.run cpos pins s1 σ H1 _ I1 q1
  rw [hs] at args ⊢
  refine Calls.callWith_builtin (by show (false || (backTo cpos (starEach [] X.env)).any (·.1)) = false; rw [hplain] <;> rfl) (Calls.evalArgs_plain (thn args fun us s2 got => ?_))
  obtain ⟨ys, H2, I2, r2, y, rfl, q2⟩ := got
  cases r2 with
  | cons ry rest =>
    cases rest
    exact run_idx (x := .ref a) hu I2 rfl ry q2
theorem d_index {o e : Expr} {apos cpos : Pos} (hK : F.K = X.K) (hu : X.A.units + 65 < cLine) (ho : PE X o (tD F Ta)) (he : PE X e (tD F Tb)) (hbase : attributeBase o "index" X.env (eval o X.env) = eval o X.env := by rfl)
    (hfew : ((backTo cpos (starEach [e] X.env)).all (fun x => !x.1) && (backToKw cpos (keywordEach [] X.env)).all (fun x => x.1.isSome) && decide ([e].length + ([] : List Keyword).length + (if ([] : List Keyword).isEmpty then 0 else 1) < 30)) = true := by rfl)
    (hline : (apos.endLine == cpos.line) = true := by rfl) (hs : starEach [e] X.env = (false, eval e X.env) :: starEach [] X.env := by rfl) (hplain : (backTo cpos (starEach [] X.env)).any (·.1) = false := by rfl) :
    PE X (.Call (.Attribute o "index" apos) [e] [] cpos) (tD F (dIdx Ta Tb)) := PE.imp (pe_idx hu ho (da_cons he da_nil hs) hbase hfew hline hs hplain) (by
  rintro σ H Q ⟨N, env, Qd, f, hT, k⟩
  refine ⟨N, env, _, f, hT, fun x H1 dx e1 r1 q1 => ?_⟩
  split at q1
  · rename_i ds
    have r0 := r1
    obtain ⟨a, vs, ob, rfl, na, hf, od, rs⟩ := r1
    have f1 := f.ext' e1
    refine ⟨⟨a, ob, vs, rfl, hf, od⟩, N, env, (fun l => match l with
      | [y] => (eqOk (.kt ds) = true ∧ eqOk y = true) ∧ match idxD y ds with
        | some j => Qd (.int (j : Nat))
        | none => False
      | _ => False), f1, q1, fun ys H2 es e2 r2 q2 => ?_⟩
    dsimp only at q2
    split at q2
    · rename_i dy
      obtain ⟨y, _, rfl, ry, z⟩ := r2
      cases z
      obtain ⟨⟨h1, h2⟩, q⟩ := q2
      split at q
      · rename_i j hj
        obtain ⟨p1, s1⟩ := Bool.and_eq_true_iff.mp h1
        obtain ⟨p2, s2⟩ := Bool.and_eq_true_iff.mp h2
        have d1 := Rep.dp (.kt ds) _ p1 (r0.ext e2 f1.n.z)
        have d2 := Rep.dp dy _ p2 ry
        rw [hK] at d1 d2
        exact ⟨y, rfl, a, toP dy, toPs ds, j, rfl, d1, d2, s1, s2, hj, k _ _ _ (e1.trans e2) rep_int q⟩
      · exact q.elim
    · exact q2.elim
  · exact q1.elim)
/-! ### is not None -/
def gNotN : G2 := fun x y Q => match y with
  | .non => Q (.bl (!isNo x))
  | _ => False
theorem opd_notN : OpD F (fun x y H Q => y = .non ∧ Q (.bl (!decide (x = .non))) H) gNotN := ⟨by
  intro N H x y dx dy Qd Q n rx ry h k
  unfold gNotN at h
  split at h
  · cases (show y = .non from ry)
    refine ⟨rfl, k _ _ _ Ext.refl rep_bl ?_⟩
    rw [isNo_rep rx]
    exact h
  · exact h.elim⟩
theorem d_notN (ha : PE X a (tD F Ta)) (hb : PE X b (tD F Tb)) (hm : behindInMarks .IsNot b = false := by rfl) : PE X (.Compare a [.IsNot] [b] pos) (tD F (dBin gNotN Ta Tb)) := d_cmp op_notN opd_notN ha hb hm
theorem dt_notN (ha : PE X a (tD F Ta)) (hb : PE X b (tD F Tb)) (hm : behindInMarks .IsNot b = false := by rfl) : PT X (.Compare a [.IsNot] [b] pos) (tDT F (dTest (dBin gNotN Ta Tb))) := dt_cmp op_notN opd_notN ha hb hm
/-! ### constants of the module -/
theorem d_gstr {x s : Str} (hg : Gl X x) (hm : ∃ t, X.mg x = some (.str s t)) (hd : (x == ("__debug__" : Str)) = false := by decide) : PE X (.Name x pos) (tD F (dC (.str s))) := by
  obtain ⟨t, hm⟩ := hm
  exact d_const (v := .str s) (pe_glob hg hm ⟨t, rfl⟩ hd) fun _ _ => rfl
theorem d_gint {x : Str} {i : Int} (hg : Gl X x) (hm : ∃ t, X.mg x = some (.int i t)) (hd : (x == ("__debug__" : Str)) = false := by decide) : PE X (.Name x pos) (tD F (dC (.int i))) := by
  obtain ⟨t, hm⟩ := hm
  exact d_const (v := .int i) (pe_glob hg hm ⟨t, rfl⟩ hd) fun _ _ => rfl
end
def gstrB (K : PySem.W.Frag) (n s : Str) : Bool := match PySem.W.nsIn K mainGlobals n with
  | some (some (.str x _)) => decide (x = s)
  | _ => false
theorem gstr_ok {K : PySem.W.Frag} {h : Heap} {mg : Str → Option Value} (X : K.In h) (G : h.Ns mainGlobals mg) {n s : Str} (c : gstrB K n s = true) : ∃ t, mg n = some (.str s t) := by
  unfold gstrB at c
  split at c
  · rename_i x t e
    cases of_decide_eq_true c
    exact ⟨t, PySem.W.mg_of X G e⟩
  · cases c
def gintB (K : PySem.W.Frag) (n : Str) (i : Int) : Bool := match PySem.W.nsIn K mainGlobals n with
  | some (some (.int x _)) => decide (x = i)
  | _ => false
theorem gint_ok {K : PySem.W.Frag} {h : Heap} {mg : Str → Option Value} (X : K.In h) (G : h.Ns mainGlobals mg) {n : Str} {i : Int} (c : gintB K n i = true) : ∃ t, mg n = some (.int i t) := by
  unfold gintB at c
  split at c
  · rename_i x t e
    cases of_decide_eq_true c
    exact ⟨t, PySem.W.mg_of X G e⟩
  · cases c
end DL
namespace DL
open PySem PySem.Spec L2
theorem u65 {k : Nat} {A : Around} (r : Room k A) : A.units + 65 < cLine := Nat.lt_of_le_of_lt (Nat.add_le_add_left (by decide) _) (units80 r)
end DL
set_option Elab.async false
set_option linter.all false
set_option maxRecDepth 100000
set_option maxHeartbeats 2000000
/-! defaults, comprehensions over zip on one line, a < b < c < d -/
namespace DL
open PySem PySem.Spec L2
open PyProof.Rows hiding St
section
variable {X : Cx} {F : FP} {k n : Nat} {f : Addr} {fd : FuncData} {ps : List Str} {T : TF} {Tas : TDA} {x : Str} {p pos : Pos} {e : Expr} {es : List Expr} {dvs : List V} {dflt : List D}
/-- f(e, ..): the defaults fill up -/
def dCallD (n : Nat) (dflt : List D) (T : TF) (Ta : TDA) : TDE := fun ξ env Q => Ta ξ env fun ds => (ds ++ dflt).length = n ∧ T (fun _ => False) (ds ++ dflt) Q
theorem tCallD_imp (hK : F.K = X.K) (hdv : ∀ (Z : Zn) (N : Addr → Prop) (H : Hp), Reps X.K Z N H dflt dvs) : ∀ σ H Q, tD F (dCallD n dflt T Tas) σ H Q → tCall (spD X.K n T) dvs E0 (tDA F Tas) σ H Q := by
  rintro σ H Q ⟨N, env, Qd, f, hT, k⟩
  refine ⟨N, env, _, f, hT, fun vs H1 ds e1 r1 q1 => ?_⟩
  have n1 := (f.ext' e1).n
  refine ⟨F.Z, N, ds ++ dflt, Qd, _, by rw [← hK]; exact n1.bok, Reps.append (by rw [← hK]; exact r1) (hdv _ _ _), q1.1, q1.2, fun v H2 d e2 r2 q2 => k v H2 d (e1.trans e2) (by rw [hK]; exact r2) q2, fun _ _ _ _ _ _ z => z⟩
theorem d_callD (G : FnG X.prog X.w X.K X.mg X.base CX0 k f fd ps (spD X.K n T)) (hK : F.K = X.K) (hr : RoomG k X.A) (hg : Gl X x) (hm : X.mg x = some (.ref f)) (hk : PySem.W.keepIn X.K (.ref f) = true) (hb : ∃ ds, Vals dvs ds ∧ Binds X.K fd ps ds) (hdv : ∀ (Z : Zn) (N : Addr → Prop) (H : Hp), Reps X.K Z N H dflt dvs)
    (ha : PA X (e :: es) (tDA F Tas)) (hdb : (x == ("__debug__" : Str)) = false := by decide) (he : starEach (e :: es) X.env = (false, eval e X.env) :: starEach es X.env := by rfl) (hpl : (backTo pos (starEach es X.env)).any (·.1) = false := by rfl) :
    PE X (.Call (.Name x p) (e :: es) [] pos) (tD F (dCallD n dflt T Tas)) := by
  obtain ⟨ds, hd, hb⟩ := hb
  exact PE.imp (pe_callG G hr hg hm hk hb hd pass0 ha hdb he hpl) (tCallD_imp hK hdv)
theorem bD_full {K : PySem.W.Frag} (h : ∃ ds, Vals (([] : List V)) ds ∧ Binds K fd ps ds) : Binds K fd ps [] := by
  obtain ⟨ds, hd, hb⟩ := h
  cases hd
  exact hb
end
section
variable {X : Cx} {F : FP} {a b c d : Expr} {pos : Pos} {ta tb tc td : TE} {Ta Tb Tc Td : TDE}
def tChain3 (r r' r'' : R2) (ta tb tc td : TE) : TE := fun σ H Q => ta σ H fun x H1 => tb σ H1 fun y H2 => r x y H2 fun z H3 => ∃ k, z = .bl k ∧
  (if k = true then tc σ H3 fun w' H4 => r' y w' H4 fun z H5 => ∃ k, z = .bl k ∧ (if k = true then td σ H5 fun v H6 => r'' w' v H6 Q else Q (.bl false) H5) else Q (.bl false) H3)
theorem pe_chain3 {op op' op'' : CmpOp} {r r' r'' : R2} (ho : OpR X (compareOp op) r) (ho' : OpR X (compareOp op') r') (ho'' : OpR X (compareOp op'') r'') (ha : PE X a ta) (hb : PE X b tb) (hc : PE X c tc) (hd : PE X d td)
    (hm : lastMarks [op, op', op''] [b, c, d] = false := by with_unfolding_all rfl) : PE X (.Compare a [op, op', op''] [b, c, d] pos) (tChain3 r r' r'' ta tb tc td) := by
  refine ⟨fun pins s σ H Q I h => ?_⟩
  refine Compare_chain (thn (ha.run pins s σ H _ I h) fun v s1 ⟨x, H1, I1, r1, q1⟩ => chain_link (thn (hb.run pins s1 σ H1 _ I1 q1) fun u s2 ⟨y, H2, I2, r2, q2⟩ =>
    thn (ho pins s2 σ H2 x y v u _ I2 r1 r2 q2) fun d s3 ⟨z, H3, I3, r3, k, e, q3⟩ => ?_)) hm
  subst e
  cases r3
  refine wpAny_truthy_bool ?_
  cases k with
  | false => exact ite_ff ⟨.bl false, H3, I3, rfl, q3⟩
  | true =>
    refine ite_tt (chain_link (thn (hc.run pins s3 σ H3 _ I3 q3) fun w' s4 ⟨z', H4, I4, r4, q4⟩ => thn (ho' pins s4 σ H4 y z' u w' _ I4 r2 r4 q4) fun d s5 ⟨z, H5, I5, r5, k, e, q5⟩ => ?_))
    subst e
    cases r5
    refine wpAny_truthy_bool ?_
    cases k with
    | false => exact ite_ff ⟨.bl false, H5, I5, rfl, q5⟩
    | true => exact ite_tt (chain_last (thn (hd.run pins s5 σ H5 _ I5 q5) fun v' s6 ⟨x6, H6, I6, r6, q6⟩ => ho'' pins s6 σ H6 z' x6 w' v' Q I6 r4 r6 q6))
def dChain3 (g g' g'' : G2) (Ta Tb Tc Td : TDE) : TDE := fun ξ env Q => Ta ξ env fun x => Tb ξ env fun y => g x y fun z => match z with
  | .bl true => Tc ξ env fun w => g' y w fun z => match z with
    | .bl true => Td ξ env fun v => g'' w v Q
    | .bl false => Q (.bl false)
    | _ => False
  | .bl false => Q (.bl false)
  | _ => False
theorem chain3_imp {r r' r'' : R2} {g g' g'' : G2} (hg : OpD F r g) (hg' : OpD F r' g') (hg'' : OpD F r'' g'') : ∀ σ H Q, tD F (dChain3 g g' g'' Ta Tb Tc Td) σ H Q → tChain3 r r' r'' (tD F Ta) (tD F Tb) (tD F Tc) (tD F Td) σ H Q := by
  rintro σ H Q ⟨N, env, Qd, f, hT, k⟩
  refine ⟨N, env, _, f, hT, fun x H1 dx e1 rx q1 => ⟨N, env, _, f.ext' e1, q1, fun y H2 dy e2 ry q2 => ?_⟩⟩
  have f2 := (f.ext' e1).ext' e2
  refine hg.ok N H2 x y dx dy _ _ f2.n (rx.ext e2 f.n.z) ry q2 fun v H3 d e3 r3 q3 => ?_
  have f3 := f2.ext' e3
  have e := (e1.trans e2).trans e3
  split at q3
  · refine ⟨true, r3, ?_⟩
    rw [if_pos rfl]
    refine ⟨N, env, _, f3, q3, fun w H4 dw e4 rw' q4 => hg'.ok N H4 y w dy dw _ _ (f3.ext' e4).n (ry.ext (e3.trans e4) f.n.z) rw' q4 fun v H5 d5 e5 r5 q5 => ?_⟩
    have f5 := (f3.ext' e4).ext' e5
    split at q5
    · refine ⟨true, r5, ?_⟩
      rw [if_pos rfl]
      exact ⟨N, env, _, f5, q5, fun v H6 dv e6 rv q6 => hg''.ok N H6 w v dw dv _ _ (f5.ext' e6).n (rw'.ext (e5.trans e6) f.n.z) rv q6 fun v H7 d7 e7 r7 q7 => k v H7 d7 ((((e.trans e4).trans e5).trans e6).trans e7) r7 q7⟩
    · refine ⟨false, r5, ?_⟩
      rw [if_neg Bool.false_ne_true]
      exact k _ _ _ ((e.trans e4).trans e5) rep_bl q5
    · exact q5.elim
  · refine ⟨false, r3, ?_⟩
    rw [if_neg Bool.false_ne_true]
    exact k _ _ _ e rep_bl q3
  · exact q3.elim
theorem d_chain3 {op op' op'' : CmpOp} {r r' r'' : R2} {g g' g'' : G2} (ho : OpR X (compareOp op) r) (ho' : OpR X (compareOp op') r') (ho'' : OpR X (compareOp op'') r'') (hg : OpD F r g) (hg' : OpD F r' g') (hg'' : OpD F r'' g'') (ha : PE X a (tD F Ta)) (hb : PE X b (tD F Tb)) (hc : PE X c (tD F Tc)) (hd : PE X d (tD F Td))
    (hm : lastMarks [op, op', op''] [b, c, d] = false := by with_unfolding_all rfl) : PE X (.Compare a [op, op', op''] [b, c, d] pos) (tD F (dChain3 g g' g'' Ta Tb Tc Td)) := PE.imp (pe_chain3 ho ho' ho'' ha hb hc hd hm) (chain3_imp hg hg' hg'')
end
/-! ### x = [.. for a, b in zip(..)] on one line -/
section
variable {X : Cx} {F : FP} {Tas : TDA} {tt : TDT} {te : TDE} {i j l : Nat} {y : Str} {a b elt : Expr} {elts ifs : List Expr} {kk : Nat} {scope : Scope} {own : List (Str × Nat)} {pos p pos' tpos spos py : Pos}
theorem ds_setLcZ (hK : F.K = X.K) (hc : X.calm = true) (hN : X.N.Nodup) (hjl : j ≠ l) (hgl : Gl X "zip") (hm : X.mg "zip" = none) (ha : PA X [a, b] (tDA F Tas)) (ok : BlkOk X.N X.env.scope scope own) (hv : own.map (·.2) = [j, l]) (hy : X.N[i]? = some y) (hyl : X.env.scope.names.lookup y = some .local)
    (hsw : swapsWith (.ListComp elt [⟨.Tuple elts kk tpos, .Call (.Name "zip" p) [a, b] [] pos', ifs, 0⟩] scope pos) (some (.Name y py)) spos.line X.env = pure true)
    (hg : ∀ (s : Shared) (H : Hp) (C : Addr) (cl : List (Str × Addr)) (fp : List Addr), PG (X.blk s H scope (compEnvC scope cl C X.env) fp) (.Tuple elts kk tpos) (rZ X.K j l)) (ht : ∀ (s : Shared) (H : Hp) (C : Addr) (cl : List (Str × Addr)) (fp : List Addr), PTs (X.blk s H scope (compEnvC scope cl C X.env) fp) ifs (tDT F.calm tt))
    (he : ∀ (s : Shared) (H : Hp) (C : Addr) (cl : List (Str × Addr)) (fp : List Addr), PE (X.blk s H scope (compEnvC scope cl C X.env) fp) elt (tD F.calm te)) (hs1 : starEach [a, b] X.env = (false, eval a X.env) :: starEach [b] X.env := by rfl) (hpl : (backTo pos' (starEach [b] X.env)).any (·.1) = false := by rfl)
    (hs : ∀ x, foldedSetIterable (.Call (.Name "zip" p) [a, b] [] pos') X.env x = pure x := by intro _; rfl) :
    PS X (.Assign [.Name y py] (.ListComp elt [⟨.Tuple elts kk tpos, .Call (.Name "zip" p) [a, b] [] pos', ifs, 0⟩] scope pos) spos) (sD F (dAsg (dLcZ Tas j l tt te) (dgName i))) := by
  have z := ps_setLc hc hN hy hyl hsw (RZ.pi_zipA hgl hm ha hs1 hpl) ok hg ht he hs
  rw [hv] at z
  exact PS.imp z (setLc_imp (by rw [← hK]; exact lcZ_imp hjl))
def lLcZ (T : TDA) (j l : Nat) (tt : TDT) (te : TDE) : TDL := fun ξ env Q => T ξ env fun ds => match ds with
  | [.tup xs, .tup ys] => (xs.length = ys.length ∧ xs.length ≤ sizeLine) ∧ lcD (gZ j l) tt te (wipeD env [j, l]) (zipD xs ys) Q
  | _ => False
theorem lc_endLZ {N : Addr → Prop} {σ : L2.St} {H0 H1 H' : Hp} {env env0 : SE} {A : Addr} {all : List D} {Ql : List D → Prop} (f : FOk F N σ H1 env) (hA : H1 A = none) {G : TDG} {Q : VK} (f0 : FOk F N σ H0 env) (e : Ext F.Z H0 H1)
    (k : ∀ p vs H' ds, NewL F N σ H0 env p vs H' ds → Ql ds → Q (.ref p) H') {n : Nat} (hn : all.length = n) (L : LcAt F N H1 A G tt te env0 all (fun d => match d with | .lst ds => Ql ds | _ => False) n H') : Q (.ref A) H' := by
  obtain ⟨ext, acc, ds, h1, h2, h3, h4⟩ := L
  rw [← hn, List.drop_length] at h4
  have h4 : Ql (ds ++ []) := h4
  rw [List.append_nil] at h4
  exact k A acc H' ds ⟨e.trans ext, f.with' kp_lst hA ext h1, h1, f.nb hA, h3, f.ap (f.n.fresh hA), f0.n.fr e hA⟩ h4
theorem lcZ_impL (hjl : j ≠ l) : ∀ σ H Q, tDL F (lLcZ Tas j l tt te) σ H Q → tLc (RZ.iZipA F.K (tDA F Tas)) (rZ F.K j l) (tDT F.calm tt) (tD F.calm te) [j, l] σ H Q := by
  rintro σ H Q ⟨N, env, Qd, f, hT, k⟩
  refine ⟨N, env, _, f, hT, fun vs H1 ds e1 r q => ?_⟩
  split at q
  · rename_i xs ys
    obtain ⟨v1, _, rfl, ⟨a, us, rfl, ra, rs⟩, v2, _, rfl, ⟨b, ws, rfl, rb, rs2⟩, rfl⟩ := r
    have f1 := f.ext' e1
    obtain ⟨⟨hl, hz⟩, q⟩ := q
    have l1 := rs.length
    have l2 := rs2.length
    have lz : (zipD xs ys).length = us.length := by rw [zipD_len hl, l1]
    refine ⟨a, b, us, ws, rfl, .inr ⟨sqt_of ra, sqt_of rb, fun A hA => ?_⟩⟩
    refine ⟨fun i m H' => m = us.length - i ∧ i ≤ us.length ∧ LcAt F N H1 A (gZ j l) tt te (wipeD env [j, l]) (zipD xs ys) (fun d => match d with | .lst ds => Qd ds | _ => False) i H', ⟨us.length, rfl, Nat.zero_le _, lc_start f1.n hA q⟩, ?_⟩
    rintro i m H' ⟨rfl, hi, L⟩
    have qa : SqT F.K H' a us := by
      refine sqt_of (N := N) ?_
      rcases ra with ⟨n, ra⟩ | ra
      · exact .inl ⟨n, L.ext.keep a _ (fun z => n (f.n.z a z)) kp_tup ra⟩
      · exact .inr ra
    have qb : SqT F.K H' b ws := by
      refine sqt_of (N := N) ?_
      rcases rb with ⟨n, rb⟩ | rb
      · exact .inl ⟨n, L.ext.keep b _ (fun z => n (f.n.z b z)) kp_tup rb⟩
      · exact .inr rb
    by_cases hlt : i < us.length
    · have hx : us[i]? = some us[i] := List.getElem?_eq_getElem hlt
      have hlt2 : i < ws.length := by omega
      have hy : ws[i]? = some ws[i] := List.getElem?_eq_getElem hlt2
      refine .inr ⟨⟨us, ws, _, _, qa, qb, hx, hy⟩, fun H2 => LcAt F N H1 A (gZ j l) tt te (wipeD env [j, l]) (zipD xs ys) (fun d => match d with | .lst ds => Qd ds | _ => False) (i + 1) H2, fun H2 p => ⟨us.length - (i + 1), by omega, rfl, hlt, p⟩, ?_⟩
      rintro v H2 ⟨T, x', y', rfl, hT', rfl, g1, g2⟩
      obtain ⟨dx, hdx, rdx⟩ := rs.getV (g1 us qa)
      obtain ⟨dy, hdy, rdy⟩ := rs2.getV (g2 ws qb)
      exact lc_turnZ f1 hA hjl (by omega) (zipD_get hdx hdy) rdx rdy L hT'
    · have e : i = us.length := by omega
      subst e
      exact .inl ⟨⟨us, ws, qa, qb, .inl (Nat.le_refl _)⟩, lc_endLZ f1 hA f e1 k lz L⟩
  · exact q.elim
theorem ds_ownLcZ (hK : F.K = X.K) (hc : X.calm = true) (hN : X.N.Nodup) (hjl : j ≠ l) (hgl : Gl X "zip") (hm : X.mg "zip" = none) (ha : PA X [a, b] (tDA F Tas)) (ok : BlkOk X.N X.env.scope scope own) (hv : own.map (·.2) = [j, l]) (hy : X.N[i]? = some y) (hyl : X.env.scope.names.lookup y = some .local)
    (hsw : swapsWith (.ListComp elt [⟨.Tuple elts kk tpos, .Call (.Name "zip" p) [a, b] [] pos', ifs, 0⟩] scope pos) (some (.Name y py)) spos.line X.env = pure true)
    (hg : ∀ (s : Shared) (H : Hp) (C : Addr) (cl : List (Str × Addr)) (fp : List Addr), PG (X.blk s H scope (compEnvC scope cl C X.env) fp) (.Tuple elts kk tpos) (rZ X.K j l)) (ht : ∀ (s : Shared) (H : Hp) (C : Addr) (cl : List (Str × Addr)) (fp : List Addr), PTs (X.blk s H scope (compEnvC scope cl C X.env) fp) ifs (tDT F.calm tt))
    (he : ∀ (s : Shared) (H : Hp) (C : Addr) (cl : List (Str × Addr)) (fp : List Addr), PE (X.blk s H scope (compEnvC scope cl C X.env) fp) elt (tD F.calm te)) (hs1 : starEach [a, b] X.env = (false, eval a X.env) :: starEach [b] X.env := by rfl) (hpl : (backTo pos' (starEach [b] X.env)).any (·.1) = false := by rfl)
    (hs : ∀ x, foldedSetIterable (.Call (.Name "zip" p) [a, b] [] pos') X.env x = pure x := by intro _; rfl) :
    PS X (.Assign [.Name y py] (.ListComp elt [⟨.Tuple elts kk tpos, .Call (.Name "zip" p) [a, b] [] pos', ifs, 0⟩] scope pos) spos) (sD F (dOwn (lLcZ Tas j l tt te) i)) := by
  have z := ps_setLc hc hN hy hyl hsw (RZ.pi_zipA hgl hm ha hs1 hpl) ok hg ht he hs
  rw [hv] at z
  exact PS.imp z (ownLc_imp (by rw [← hK]; exact lcZ_impL hjl))
end
/-! ### min, max of a list of ints -/
def gExtL (up : Bool) : GA := fun xs Q => match xs with
  | [.lst ds] => match intsOf ds with
    | some ns => 0 < ns.length ∧ ∀ m, m ∈ ns → (∀ y, y ∈ ns → (if up = true then y ≤ m else m ≤ y)) → Q (.int m)
    | none => False
  | _ => False
theorem cd_maxL {F : FP} : CallD F (rMax F.K) (gExtL true) := ⟨by
  intro N H vs ds Qd Q n r h k
  unfold gExtL at h
  split at h
  · rename_i ds
    split at h
    · rename_i ns hb
      obtain ⟨v, r, rfl, h1, h2⟩ := r
      cases h2
      obtain ⟨a, vs, rfl, na, ra, rs⟩ := h1
      rw [intsOf_eq hb] at rs
      rw [rs.ints] at ra
      exact ⟨a, ns, rfl, SqL.of ra, h.1, fun m h1 h2 => k _ _ _ Ext.refl rep_int (h.2 m h1 fun y hy => by rw [if_pos rfl]; exact h2 y hy)⟩
    · exact h.elim
  · exact h.elim⟩
theorem cd_minL {F : FP} : CallD F (rMin F.K) (gExtL false) := ⟨by
  intro N H vs ds Qd Q n r h k
  unfold gExtL at h
  split at h
  · rename_i ds
    split at h
    · rename_i ns hb
      obtain ⟨v, r, rfl, h1, h2⟩ := r
      cases h2
      obtain ⟨a, vs, rfl, na, ra, rs⟩ := h1
      rw [intsOf_eq hb] at rs
      rw [rs.ints] at ra
      exact ⟨a, ns, rfl, SqL.of ra, h.1, fun m h1 h2 => k _ _ _ Ext.refl rep_int (h.2 m h1 fun y hy => by rw [if_neg Bool.false_ne_true]; exact h2 y hy)⟩
    · exact h.elim
  · exact h.elim⟩
end DL
set_option Elab.async false
set_option linter.all false
set_option maxRecDepth 100000
/-! `x != []` for lists of anything: their lengths are compared first -/
namespace DL
open PySem PySem.Spec L2
open PyProof.Rows hiding St
section
variable {X : Cx} {F : FP} {a b : Expr} {Ta Tb : TDE} {pos : Pos}
def rNeL (K : PySem.W.Frag) : R2 := fun x y H Q => ∃ a b vs ws, x = .ref a ∧ y = .ref b ∧ SqL K H a vs ∧ SqL K H b ws ∧ vs.length ≠ ws.length ∧ Q (.bl true) H
theorem op_neL (hu : X.A.units + 64 < cLine) : OpR X (compareOp .NotEq) (rNeL X.K) := by
  intro pins s σ H x y v u Q I rx ry h
  obtain ⟨a, b, vs, ws, rfl, rfl, h1, h2, hn, q⟩ := h
  cases rx
  cases ry
  obtain ⟨i1, r1, l1, _⟩ := I.list h1
  obtain ⟨i2, r2, l2, _⟩ := I.list h2
  have e1 := r1.length
  have e2 := r2.length
  exact SeqAt.RcNeAt.lists_lengths l1.isList l2.isList (by simp; omega) (by omega) X.prog X.w _ _ ⟨.bl _, H, I, rfl, q⟩
def gNeL : G2 := fun x y Q => match x, y with
  | .lst (_ :: _), .lst [] => Q (.bl true)
  | x, y => gNe x y Q
theorem opd_neL : OpD F (fun x y H Q => rNeL F.K x y H Q ∨ (rNeD F.K x y H Q ∨ rNe x y H Q)) gNeL := ⟨by
  intro N H x y dx dy Qd Q n rx ry h k
  unfold gNeL at h
  split at h
  · obtain ⟨a, vs, e1, _, r1, q1⟩ := rx
    obtain ⟨b, ws, e2, _, r2, q2⟩ := ry
    refine .inl ⟨a, b, vs, ws, e1, e2, .of r1, .of r2, ?_, k _ _ _ Ext.refl rep_bl h⟩
    rw [← q1.length, ← q2.length]
    simp
  · exact .inr ((opd_ne (F := F)).ok N H x y _ _ Qd Q n rx ry h k)⟩
theorem d_neL (hK : F.K = X.K) (hu : X.A.units + 64 < cLine) (ha : PE X a (tD F Ta)) (hb : PE X b (tD F Tb)) : PE X (.Compare a [.NotEq] [b] pos) (tD F (dBin gNeL Ta Tb)) := by
  have o := opd_neL (F := F)
  rw [hK] at o
  exact d_cmp ((op_neL hu).or ((op_neD hu).or op_ne)) o ha hb (nomark _)
theorem dt_neL (hK : F.K = X.K) (hu : X.A.units + 64 < cLine) (ha : PE X a (tD F Ta)) (hb : PE X b (tD F Tb)) : PT X (.Compare a [.NotEq] [b] pos) (tDT F (dTest (dBin gNeL Ta Tb))) := by
  have o := opd_neL (F := F)
  rw [hK] at o
  exact dt_cmp ((op_neL hu).or ((op_neD hu).or op_ne)) o ha hb (nomark _)
end
theorem neL {ds : List D} {Q : D → Prop} (q : Q (.bl (!ds.isEmpty))) : gNeL (.lst ds) (.lst []) Q := by
  cases ds with
  | nil => exact ⟨⟨by decide +kernel, by decide +kernel⟩, q⟩
  | cons d ds => exact q
end DL
set_option Elab.async false
set_option linter.all false
set_option maxRecDepth 100000
/-! instances of the program's own classes that never change behind their __init__ -/
namespace DL
open PySem PySem.Spec L2
open PyProof.Rows hiding St
section
variable {X : Cx} {F : FP} {W : WX} {a b e : Expr} {Ta Tb : TDE} {Tas : TDA} {pos : Pos} {fs : List Str} {c : Str}
/-! ### attributes -/
def gFld (f : Str) (x : D) (Q : D → Prop) : Prop := match x with
  | .ins _ fs ds => (match (fs.zip ds).lookup f with
    | some d => Q d
    | none => False)
  | _ => False
theorem reps_lookup {K : PySem.W.Frag} {Z : Zn} {N : Addr → Prop} {H : Hp} {f : Str} {d : D} : ∀ {fs : List Str} {ds : List D} {vs : List V}, Reps K Z N H ds vs → (fs.zip ds).lookup f = some d → f ∈ fs ∧ ∃ v, (fs.zip vs).lookup f = some v ∧ Rep K Z N H d v
  | [], _, _, _, h => by cases h
  | g :: fs, [], _, _, h => by cases h
  | g :: fs, x :: ds, vs, r, h => by
    obtain ⟨v, ws, rfl, h1, h2⟩ := r
    rw [List.zip_cons_cons, List.lookup_cons] at h
    rw [List.zip_cons_cons, List.lookup_cons]
    by_cases e : (f == g) = true
    · rw [e] at h ⊢
      cases h
      exact ⟨by rw [beq_iff_eq.mp e]; exact List.mem_cons_self, v, rfl, h1⟩
    · rw [Bool.not_eq_true] at e
      rw [e] at h ⊢
      obtain ⟨m, v', h3, h4⟩ := reps_lookup h2 h
      exact ⟨List.mem_cons_of_mem _ m, v', h3, h4⟩
theorem d_fld {f : Str} (hK : F.K = X.K) (ha : PE X e (tD F Ta)) (hb : attributeBase e f X.env (eval e X.env) = eval e X.env := by rfl) : PE X (.Attribute e f pos) (tD F (dUn (gFld f) Ta)) := PE.imp (pe_fld ha hb) (by
  rintro σ H Q ⟨N, env, Qd, fk, hT, k⟩
  refine ⟨N, env, _, fk, hT, fun v H1 d e1 r q => ?_⟩
  cases d with
  | ins c fs ds =>
    obtain ⟨a, dx, vs, rfl, _, hh, hl, i, rs⟩ := r
    have q : (match (fs.zip ds).lookup f with
      | some d => Qd d
      | none => False) := q
    cases hk : (fs.zip ds).lookup f with
    | none =>
      rw [hk] at q
      exact q.elim
    | some d =>
      rw [hk] at q
      obtain ⟨m, v, h3, h4⟩ := reps_lookup rs hk
      rw [hK] at hh i
      exact ⟨a, _, dx, _, v, rfl, hh, i.cls, i.no f m, h3, k v H1 d e1 h4 q⟩
  | _ => exact q.elim)
/-! ### isinstance(x, C) -/
def gIsC (c : Str) (x : D) (Q : D → Prop) : Prop := match x with
  | .ins c' _ _ => c' = c ∧ Q (.bl true)
  | x => typed x = true ∧ Q (.bl false)
theorem tyx_not {N : Addr → Prop} {H : Hp} : ∀ {d : D} {v : V}, (∀ c fs ds, d ≠ .ins c fs ds) → typed d = true → Rep F.K F.Z N H d v → ∃ T ∈ ["NoneType", "int", "bool", "tuple", "list", "str", "dict"], TyX F.K H v (.type T)
  | .non, v, _, _, h => ⟨"NoneType", by simp, by rw [show v = _ from h]; exact .base .non⟩
  | .bl b, v, _, _, h => ⟨"bool", by simp, by rw [show v = _ from h]; exact .base (.bl b)⟩
  | .int b, v, _, _, h => ⟨"int", by simp, by rw [show v = _ from h]; exact .base (.int b)⟩
  | .str b, v, _, _, h => ⟨"str", by simp, by rw [show v = _ from h]; exact .base (.str b)⟩
  | .tup ds, v, _, _, h => by
    obtain ⟨a, vs, rfl, r, q⟩ := h
    refine ⟨"tuple", by simp, ?_⟩
    rcases r with ⟨_, r⟩ | (r | ⟨_, r⟩) | ⟨o, _, _, h1, h2, _⟩
    · exact .base (.tup r)
    · cases r
    · cases r
    · exact .kTuple h1 h2
  | .lst ds, v, _, _, h => by
    obtain ⟨a, vs, rfl, _, r, q⟩ := h
    exact ⟨"list", by simp, .base (.lst r)⟩
  | .dct ks ds, v, _, _, h => by
    obtain ⟨a, vs, rfl, _, r, _, q⟩ := h
    exact ⟨"dict", by simp, .base (.dK r)⟩
  | .deck, _, _, p, _ => by cases p
  | .ty _, _, _, p, _ => by cases p
  | .kt ds, v, _, _, h => by
    obtain ⟨a, vs, o, rfl, _, r, _, q⟩ := h
    exact ⟨"tuple", by simp, .fTuple r⟩
  | .ins c fs ds, v, n, _, h => (n c fs ds rfl).elim
theorem d_isC {p p2 : Pos} {ty : Str} (i : InsK X.K c fs) (hK : F.K = X.K) (hg : Gl X "isinstance") (hm : X.mg "isinstance" = none) (hg2 : Gl X ty) (hm2 : X.mg ty = some (.ref (insA X.K c))) (ha : PE X a (tD F Ta)) (hd2 : (ty == ("__debug__" : Str)) = false := by decide)
    (he : starEach [a, .Name ty p2] X.env = (false, eval a X.env) :: starEach [.Name ty p2] X.env := by rfl) (he2 : starEach [.Name ty p2] X.env = (false, eval (.Name ty p2) X.env) :: starEach [] X.env := by rfl) (hpl : (backTo pos (starEach [.Name ty p2] X.env)).any (·.1) = false := by rfl) :
    PE X (.Call (.Name "isinstance" p) [a, .Name ty p2] [] pos) (tD F (dUn (gIsC c) Ta)) :=
  PE.imp (pe_callB call_isi hg hm (by decide +kernel) (pa_cons ha (pa_cons (pe_glob (v := .ref (insA X.K c)) hg2 hm2 rfl hd2) pa_nil he2) he) (by decide) (by decide) he hpl) (by
  rintro σ H Q ⟨N, env, Qd, f, hT, k⟩
  refine ⟨N, env, _, f, hT, fun v H1 d e1 r q => ?_⟩
  by_cases hn : ∃ c' fs' ds', d = .ins c' fs' ds'
  · obtain ⟨c', fs', ds', rfl⟩ := hn
    obtain ⟨ec, q⟩ := q
    subst ec
    obtain ⟨a, dx, vs, rfl, _, hh, hl, i', rs⟩ := r
    rw [hK] at hh i'
    exact ⟨.ref a, _, _, _, true, rfl, .own _, .base (.ins hh i'.cls i'.ca i'.cn i'.ct i'.cm), i.self, k _ _ _ e1 rep_bl q⟩
  · have hn : ∀ c fs ds, d ≠ .ins c fs ds := fun c fs ds e => hn ⟨c, fs, ds, e⟩
    have q : typed d = true ∧ Qd (.bl false) := by
      cases d <;> first | exact q | exact (hn _ _ _ rfl).elim
    obtain ⟨T, m, h3⟩ := tyx_not hn q.1 r
    rw [hK] at h3
    exact ⟨v, _, _, _, false, rfl, .own _, h3, i.tik T m, k _ _ _ e1 rep_bl q.2⟩)
end
end DL
set_option Elab.async false
set_option linter.all false
set_option maxRecDepth 100000
/-! an own __init__ whose last rows store what was worked out; the making of an instance -/
namespace DL
open PySem PySem.Spec L2
open PyProof.Rows hiding St
theorem notz {Z : Zn} {H : Hp} {p C dx : Addr} {fs : List (Str × V)} (dk : DeckOk Z H) (h : H p = some (.ins C dx fs)) : ¬ InZ Z p := by
  rintro ⟨a, l, e1, e2⟩
  obtain ⟨xs, m, k, h1, h2, _⟩ := dk.1 a l e1
  rcases e2 with rfl | rfl
  · rw [h] at h1; cases h1
  · rw [h] at h2; cases h2
/-! ### the last rows -/
def sIni (K : PySem.W.Frag) : List (Str × Nat) → TS
  | [] => fun De σ H => De.nx σ H
  | (f, j) :: r => fun De σ H => sFld K (tVar 0) (tVar j) f { De with nx := sIni K r De } σ H
theorem putF_new {f : Str} {v : V} : ∀ {fs : List (Str × V)}, f ∉ fs.map (·.1) → putF f v fs = fs ++ [(f, v)]
  | [], _ => rfl
  | (g, x) :: r, h => by
    have h1 : ¬ g = f := fun e => h (by rw [e]; exact List.mem_cons_self)
    have h2 : f ∉ r.map (·.1) := fun m => h (List.mem_cons_of_mem _ m)
    unfold putF
    rw [if_neg h1, putF_new h2]
    rfl
theorem sIni_run {K : PySem.W.Frag} {C dx p : Addr} {σ : L2.St} (cl : Cls K C) (h0 : σ[0]? = some (some (.ref p))) : ∀ {fs : List Str} {js : List Nat} {us : List V} {acc : List (Str × V)} {H : Hp} {De : Ends}, fs.length = us.length → fs.length = js.length →
    (∀ f ∈ fs, NoAttr K C f) → fs.Nodup → (∀ f ∈ fs, f ∉ acc.map (·.1)) → acc.length + fs.length < 1000 → (∀ (i : Nat) (j : Nat) (u : V), js[i]? = some j → us[i]? = some u → σ[j]? = some (some u)) → H p = some (.ins C dx acc) → De.nx σ (upd H p (.ins C dx (acc ++ fs.zip us))) →
    sIni K (fs.zip js) De σ H
  | [], js, us, acc, H, De, l1, l2, no, nd, na, sz, hj, hH, q => by
    have e : upd H p (.ins C dx (acc ++ ([] : List Str).zip us)) = H := by
      funext b
      unfold upd
      split
      · rename_i e
        rw [e, hH]
        simp
      · rfl
    rw [e] at q
    exact q
  | f :: fs, [], us, acc, H, De, l1, l2, no, nd, na, sz, hj, hH, q => by cases l2
  | f :: fs, j :: js, [], acc, H, De, l1, l2, no, nd, na, sz, hj, hH, q => by cases l1
  | f :: fs, j :: js, u :: us, acc, H, De, l1, l2, no, nd, na, sz, hj, hH, q => by
    have nf : f ∉ acc.map (·.1) := na f List.mem_cons_self
    refine ⟨u, hj 0 j u rfl rfl, .ref p, h0, p, C, dx, acc, rfl, hH, cl, no f List.mem_cons_self, by omega, ?_⟩
    rw [putF_new nf]
    refine sIni_run cl h0 (fs := fs) (js := js) (us := us) (acc := acc ++ [(f, u)]) (by simpa using l1) (by simpa using l2) (fun g m => no g (List.mem_cons_of_mem _ m)) (List.nodup_cons.mp nd).2 (fun g m => ?_) (by simp only [List.length_append, List.length_singleton]; simp only [List.length_cons] at sz; omega) (fun i j' u' a b => hj (i + 1) j' u' (by simpa using a) (by simpa using b)) upd_same ?_
    · rw [List.map_append]
      intro z
      rcases List.mem_append.mp z with z | z
      · exact na g (List.mem_cons_of_mem _ m) z
      · simp only [List.map_cons, List.map_nil, List.mem_cons, List.not_mem_nil, or_false] at z
        subst z
        exact (List.nodup_cons.mp nd).1 m
    · show De.nx σ (upd (upd H p _) p _)
      rw [upd_upd]
      have e : acc ++ [(f, u)] ++ fs.zip us = acc ++ (f :: fs).zip (u :: us) := by simp
      rw [e]
      exact q
/-! ### the reading -/
def pickD : List Nat → SE → Option (List D)
  | [], _ => some []
  | j :: js, env => match env[j]? with
    | some (.d x) => (pickD js env).map (x :: ·)
    | _ => none
def tfI (c : Str) (fs : List Str) (js : List Nat) (n : Nat) (T : TDS) : TF := fun ξ ds Q => ∀ v, T (fun x _ => ξ x) { nx := fun env => env[0]? = some (.raw v) ∧ ∃ es, pickD js env = some es ∧ Q (.ins c fs es), rt := fun _ => False } (.raw v :: startD (n - 1) ds)
/-- what an __init__ does: the instance at p gets its attributes -/
def spI (K : PySem.W.Frag) (c : Str) (fs : List Str) (n : Nat) (T : TF) : Sp := fun vs H Q E => ∃ (Z : Zn) (B : Addr → Prop) (p dx : Addr) (ws : List V) (ds : List D) (Qd : D → Prop) (Ed : DX → Prop), vs = .ref p :: ws ∧ B p ∧ H p = some (.ins (insA K c) dx []) ∧ BOk K Z B H ∧ Reps K Z B H ds ws ∧ ds.length = n ∧ T Ed ds Qd ∧
  (∀ us H' es, Ext Z H H' → Reps K Z B H' es us → fs.length = us.length → Qd (.ins c fs es) → Q .non (upd H' p (.ins (insA K c) dx (fs.zip us)))) ∧ ∀ x c' od H', Ext Z H H' → XRep K Z B H' x c' od → Ed x → E c' od H'
theorem pick_vals {F : FP} {N : Addr → Prop} {σ : L2.St} {H : Hp} {env : SE} (f : FOk F N σ H env) : ∀ {js : List Nat} {es : List D}, pickD js env = some es → ∃ us, Reps F.K F.Z N H es us ∧ js.length = us.length ∧ ∀ (i j : Nat) (u : V), js[i]? = some j → us[i]? = some u → σ[j]? = some (some u)
  | [], es, h => by
    cases h
    exact ⟨[], rfl, rfl, fun i j u a => by simp at a⟩
  | j :: js, es, h => by
    unfold pickD at h
    split at h
    · rename_i x e
      cases hp : pickD js env with
      | none => rw [hp] at h; cases h
      | some r =>
        rw [hp] at h
        cases h
        obtain ⟨us, r1, l, q⟩ := pick_vals f hp
        obtain ⟨v, h1, h2⟩ := f.slot j _ e
        refine ⟨v :: us, ⟨v, us, rfl, h2, r1⟩, by simp [l], fun i j' u a b => ?_⟩
        cases i with
        | zero =>
          simp only [List.getElem?_cons_zero, Option.some.injEq] at a b
          subst a b
          exact h1
        | succ i => exact q i j' u (by simpa using a) (by simpa using b)
    · cases h
theorem start_okI {K : PySem.W.Frag} {Z : Zn} {B : Addr → Prop} {H : Hp} {ds : List D} {vs : List V} {Ed : XW} {N : List Str} {n : Nat} {p : V} (hn : N.length = n + 1) (b : BOk K Z B H) (r : Reps K Z B H ds vs) : FOk ⟨K, Z, B, H, Ed, B, H⟩ B (start N (p :: vs)) H (.raw p :: startD (N.length - 1) ds) := by
  have e : start N (p :: vs) = some p :: start (List.replicate n ("" : Str)) vs := by
    unfold L2.start
    rw [hn, List.length_replicate]
    simp
  have e2 : N.length - 1 = (List.replicate n ("" : Str)).length := by rw [List.length_replicate, hn]; rfl
  rw [e, e2]
  have f := start_ok (Ed := Ed) (N := List.replicate n ("" : Str)) b r
  refine ⟨f.n, by simp [f.len], fun i s h => ?_, fun i j q xs ys hij h h' g g' => ?_⟩
  · cases i with
    | zero =>
      simp only [List.getElem?_cons_zero, Option.some.injEq] at h
      subst h
      rfl
    | succ i =>
      have h2 := f.slot i s (by simpa using h)
      exact h2
  · cases i with
    | zero => simp at h
    | succ i =>
      cases j with
      | zero => simp at h'
      | succ j => exact f.apart i j q xs ys (by omega) (by simpa using h) (by simpa using h') (by simpa using g) (by simpa using g')
theorem execs_app {env : Env} : ∀ (a b : List Stmt), execs (a ++ b) env = (execs a env >>= fun f => match f with | .next => execs b env | f => pure f)
  | [], b => by
    show execs b env = (pure Flow.next >>= _)
    rw [pure_bind]
  | st :: a, b => by
    rw [List.cons_append, execs_cons, execs_cons, bind_assoc]
    congr 1
    funext f
    cases f with
    | next => exact execs_app a b
    | _ => simp
theorem pss_split {X : Cx} {body : List Stmt} (m : Nat) {t u : TS} (h1 : PSs X (body.take m) t) (h2 : PSs X (body.drop m) u) : PSs X body (tSeq t u) := by
  have key : ∀ (a b : List Stmt), PSs X a t → PSs X b u → PSs X (a ++ b) (tSeq t u) := by
    intro a b h1 h2
    refine ⟨fun pins s σ H D I h => ?_⟩
    rw [execs_app]
    refine wpAny_bind (thn (h1.run pins s σ H { D with nx := u D } I h) fun f s1 q => ?_)
    cases f with
    | next =>
      obtain ⟨σ', H', I', q'⟩ := q
      exact h2.run pins s1 σ' H' D I' q'
    | _ => exact wpAny_pure q
  have z := key _ _ h1 h2
  rwa [List.take_append_drop] at z
section
variable {P : Program} {w : World} {K : PySem.W.Frag} {mg : Str → Option Value} {base : Heap} {k : Nat} {f : Addr} {fd : FuncData} {N ps : List Str} {fs : List Str} {c : Str}
theorem fng_init {x qual : Str} {params : Arguments} {body : List Stmt} {scope : Scope} {dvs : List V} {kws : List (Str × V)} {T : TDS} {js : List Nat} (m : Nat) (Fd : FunD K x qual params body scope dvs kws f fd) (S : FnScope N ps scope) (i : InsK K c fs) (nd : fs.Nodup) (sz : fs.length < 1000) (hl : fs.length = js.length)
    (hn : ps.length = (ps.length - 1) + 1) (hN : N.length = (N.length - 1) + 1)
    (hb : ∀ (cdv : Value) (A : Around) (outer : List Env) (s : Shared) (H : Hp) (E : XK) (F : FP), F.K = K → WOk F (fun c od _ H' => E c od H') → RoomG k (A.deeper (envOfC qual scope s.heap.objs.size f cdv)) →
      PSs (cxOf (CX P w) P w K mg base N qual scope f cdv A outer s H E) (body.take m) (sD F T))
    (ht : ∀ (cdv : Value) (A : Around) (outer : List Env) (s : Shared) (H : Hp) (E : XK), PSs (cxOf (CX P w) P w K mg base N qual scope f cdv A outer s H E) (body.drop m) (sIni K (fs.zip js))) :
    FnG P w K mg base (CX P w) (k + 1) f fd ps (spI K c fs (ps.length - 1) (tfI c fs js N.length T)) := by
  refine fng_of Fd S ?_ ?_
  · rintro vs H Q E ⟨Z, B, p, dx, ws, ds, Qd, Ed, rfl, _, _, b, r, hl, _⟩
    rw [List.length_cons, ← r.length, hl]
    exact hn.symm
  · rintro cdv A outer s H vs Q E room ⟨Z, B, p, dx, ws, ds, Qd, Ed, rfl, hp, hH, b, r, hl', hT, hq, he⟩
    refine ⟨_, pss_split m (hb cdv A outer s H E ⟨K, Z, B, H, fun x _ => Ed x, B, H⟩ rfl (fun N' σ H' env x c od f' xr hx => he x c od H' f'.n.ext (xr.less f'.n.sub) hx) room) (ht cdv A outer s H E), ?_⟩
    refine ⟨B, _, _, start_okI hN b r, hT (.ref p), ⟨fun N' σ' H' env' f' _ q => ?_, fun v H' d e r' q => q.elim, fun _ _ _ _ _ _ q => q.elim, fun _ _ _ _ _ _ q => q.elim⟩⟩
    obtain ⟨e0, es, hp1, q⟩ := q
    obtain ⟨us, r1, l, hv⟩ := pick_vals f' hp1
    have h0 : σ'[0]? = some (some (.ref p)) := f'.slot 0 _ e0
    have hH' : H' p = some (.ins (insA K c) dx []) := f'.n.ext.keep p _ (notz b.deck hH) kp_ins hH
    refine sIni_run i.cls h0 (by rw [hl, l]) hl i.no nd (fun _ _ => by simp) (by simpa using sz) hv hH' ?_
    exact hq us H' es f'.n.ext (r1.less f'.n.sub) (by rw [hl, l]) q
end
end DL
set_option Elab.async false
set_option linter.all false
set_option maxRecDepth 100000
/-! the making of an instance -/
namespace DL
open PySem PySem.Spec L2
open PyProof.Rows hiding St
theorem guards_make {A : Around} {args : Args} (h : A.guards = some []) : (A.under (.builtin "type.__call__" args)).guards = some [] := by
  show pushGuards (Code.builtin "type.__call__" args).guards A.guards = some []
  rw [h]
  rfl
theorem RoomG.make {k : Nat} {A : Around} (r : RoomG (k + 1) A) (C : Addr) (us : List Value) (kw : List (Str × Value)) : RoomG k (A.under (.builtin "type.__call__" ⟨.ref C :: us, kw⟩)) := ⟨r.r.make C us kw, guards_make r.g⟩
theorem ini_nil {X : Cx} : PSs X [] (sIni X.K []) := pss_nil
theorem ini_cons {X : Cx} {st : Stmt} {rest : List Stmt} {f : Str} {j : Nat} {r : List (Str × Nat)} (h1 : PS X st (sFld X.K (tVar 0) (tVar j) f)) (h2 : PSs X rest (sIni X.K r)) : PSs X (st :: rest) (sIni X.K ((f, j) :: r)) := pss_cons h1 h2
section
variable {X : Cx} {F : FP} {W : WX} {CX : CXT} {k n : Nat} {f C : Addr} {fd : FuncData} {ps : List Str} {sp : Sp} {dvs : List V} {ds : List Value} {x : Str} {p pos : Pos} {e : Expr} {es : List Expr} {Tas : TDA} {T : TF} {c : Str} {fs : List Str} {dflt : List D}
theorem run_makeG {E : XK} {pins : List (Addr × Obj)} {σ : L2.St} {H : Hp} {s : Shared} {Q : VK} {us : List Value} {vs : List V} (M : Mk X.K C f) (G : FnG X.prog X.w X.K X.mg X.base CX k f fd ps sp) (hr : RoomG (k + 1) X.A) (hb : Binds X.K fd ps ds) (hd : Vals dvs ds)
    (hx : PassesAt CX X σ E) (I : Inv X pins σ H s) (r : Vals vs us)
    (h : ∀ x dx, H x = none → H dx = none → dx ≠ x → sp (.ref x :: (vs ++ dvs)) (upd (upd H dx (.own x)) x (.ins C dx [])) (fun v H2 => v = .non ∧ Q (.ref x) H2) E) :
    wpAny (model X.prog X.w) X.A (call (.ref C) us) (EP X pins σ Q) X.xe s := by
  have hq := h (s.heap.objs.size + 1) s.heap.objs.size (I.hok.fresh (Nat.le_succ _)) (I.hok.fresh (Nat.le_refl _)) (Nat.ne_of_lt (Nat.lt_succ_self _))
  have I2 := Inv.made (C := C) I
  have r2 : Vals (V.ref (s.heap.objs.size + 1) :: (vs ++ dvs)) (Value.ref (s.heap.objs.size + 1) :: (us ++ ds)) := .cons rfl (r.append hd)
  have hl : (Value.ref (s.heap.objs.size + 1) :: us ++ ds).length = ps.length := by
    have e := r2.length
    rw [G.len _ _ _ _ hq] at e
    exact e.symm
  refine wpAny_call (make_map (f := f) I.kIn M.makes M.init (beq_iff_eq.mp M.fn) (codeAny_mono (G.run _ X.stack _ _ ⟨Value.ref (s.heap.objs.size + 1) :: us, []⟩ (Value.ref (s.heap.objs.size + 1) :: (us ++ ds)) _ _ E (hr.make C us [])
    (I2.env0.make C us []) (hb _ (Value.ref (s.heap.objs.size + 1) :: us) I2.kIn hl) r2 hq) fun r s' hq' => ?_))
  cases r with
  | error e => exact hx pins _ _ e s' I2 hq'
  | ok fl =>
    cases fl with
    | ret u =>
      obtain ⟨v, H', I3, rv, ev, q3⟩ := I2.after hq'
      subst ev
      exact ⟨rv, ⟨V.ref (s.heap.objs.size + 1), H', I3, rfl, q3⟩⟩
    | next => exact False.elim hq'
    | brk => exact False.elim hq'
    | cont => exact False.elim hq'
def tMakeS (C : Addr) (sp : Sp) (dvs : List V) (E : L2.St → XK) (t : TA) : TE := fun σ H Q => t σ H fun vs H1 => ∀ x dx, H1 x = none → H1 dx = none → dx ≠ x →
  sp (.ref x :: (vs ++ dvs)) (upd (upd H1 dx (.own x)) x (.ins C dx [])) (fun v H2 => v = .non ∧ Q (.ref x) H2) (E σ)
theorem pe_makeS {E : L2.St → XK} {t : TA} (M : Mk X.K C f) (G : FnG X.prog X.w X.K X.mg X.base CX k f fd ps sp) (hr : RoomG (k + 1) X.A) (hg : Gl X x) (hm : X.mg x = some (.ref C)) (hb : Binds X.K fd ps ds) (hd : Vals dvs ds) (hx : ∀ σ, PassesAt CX X σ (E σ))
    (ha : PA X (e :: es) t) (hdb : (x == ("__debug__" : Str)) = false := by decide) (he : starEach (e :: es) X.env = (false, eval e X.env) :: starEach es X.env := by rfl) (hpl : (backTo pos (starEach es X.env)).any (·.1) = false := by rfl) :
    PE X (.Call (.Name x p) (e :: es) [] pos) (tMakeS C sp dvs E t) := by
  refine ⟨fun pins s σ H Q I h => ?_⟩
  refine wpAny_Call_Name_kw (ld_glob I hg hm ?_ hdb)
  refine PySem.W.callWith_K (h₀ := X.base) I.ok.mod.kin M.kp (thn (ha.run pos pins s σ H _ I h) fun us s1 ⟨vs, H1, I1, r, q⟩ => ⟨I1.kIn, ?_⟩) he hpl
  exact run_makeG M G hr hb hd (hx σ) I1 r q
theorem deck_ins {Z : Zn} {H : Hp} {p C dx C' dx' : Addr} {as bs : List (Str × V)} (dk : DeckOk Z H) (h : H p = some (.ins C dx as)) : DeckOk Z (upd H p (.ins C' dx' bs)) := by
  refine ⟨fun a l e => ?_, fun q hq => ?_⟩
  · obtain ⟨xs, m, k, h1, h2, h3⟩ := dk.1 a l e
    refine ⟨xs, m, k, ?_, ?_, h3⟩
    · rw [upd_ne (fun z => by rw [z, h] at h1; cases h1)]; exact h1
    · rw [upd_ne (fun z => by rw [z, h] at h2; cases h2)]; exact h2
  · exact tab_upd h kp_ins (fun φ z => by cases z) (dk.2 q hq)
def dMk (n : Nat) (dflt : List D) (T : TF) (Ta : TDA) : TDE := fun ξ env Q => Ta ξ env fun ds => (ds ++ dflt).length = n ∧ T (fun x => ξ x env) (ds ++ dflt) Q
theorem tMk_imp (hK : F.K = X.K) (i : InsK X.K c fs) (wo : WOk F W) (hdv : ∀ (Z : Zn) (N : Addr → Prop) (H : Hp), Reps X.K Z N H dflt dvs) : ∀ σ H Q, tD F (dMk n dflt T Tas) σ H Q → tMakeS (insA X.K c) (spI X.K c fs n T) dvs (WE W) (tDA F Tas) σ H Q := by
  rintro σ H Q ⟨N, env, Qd, f, hT, k⟩
  refine ⟨N, env, _, f, hT, fun vs H1 ds e1 r1 q1 x dx hx hdx hne => ?_⟩
  rw [← hK] at i hdv ⊢
  have f1 := f.ext' e1
  have nx : ¬ N x := f1.n.fresh hx
  have kp1 : ∀ q u, H1 q = some u → upd (upd H1 dx (.own x)) x (.ins (insA F.K c) dx []) q = some u := fun q u z => by
    rw [upd_ne (fun w => by rw [w, hx] at z; cases z), upd_ne (fun w => by rw [w, hdx] at z; cases z)]
    exact z
  have dk1 : DeckOk F.Z (upd (upd H1 dx (.own x)) x (.ins (insA F.K c) dx [])) := deck_mono kp1 f1.n.deck
  have E12 : Ext F.Z H1 (upd (upd H1 dx (.own x)) x (.ins (insA F.K c) dx [])) := ⟨fun q o _ _ z => kp1 q o z, fun _ => dk1⟩
  refine ⟨F.Z, fun q => N q ∨ q = x, x, dx, vs ++ dvs, ds ++ dflt, Qd, _, rfl, .inr rfl, upd_same, ⟨dk1, fun q z => .inl (f1.n.z q z), fun q z => ?_, f1.n.tb⟩, ?_, q1.1, q1.2, ?_, ?_⟩
  · rcases z with z | z
    · obtain ⟨o, h1, h2⟩ := f1.n.all q z
      exact ⟨o, kp1 q o h1, h2⟩
    · rw [z]
      exact ⟨_, upd_same, kp_ins⟩
  · refine Reps.append (Reps.mono (fun q o n1 k1 z => ⟨kp1 q o z, ?_⟩) ds vs r1) (hdv _ _ _)
    rintro (w | w)
    · exact n1 w
    · rw [w, hx] at z; cases z
  · intro us H' es' e2 r2 l q2
    have hx' : H' x = some (.ins (insA F.K c) dx []) := e2.keep x _ (notz dk1 upd_same) kp_ins upd_same
    refine ⟨rfl, k (.ref x) _ (.ins c fs es') (e1.trans ⟨fun q o n1 k1 z => ?_, fun _ => ?_⟩) ?_ q2⟩
    · rw [upd_ne (fun w => by rw [w, hx] at z; cases z)]
      exact e2.keep q o n1 k1 (kp1 q o z)
    · exact deck_ins (e2.deck dk1) hx'
    · refine ⟨x, dx, us, rfl, nx, upd_same, l, i, Reps.mono (fun q o n1 k1 z => ⟨?_, fun w => n1 (.inl w)⟩) es' us r2⟩
      rw [upd_ne (fun w => n1 (.inr w))]
      exact z
  · intro x' c' od H' e2 xr hx'
    exact wo N σ H' env x' c' od (f1.ext' (E12.trans e2)) (xr.less fun q w => .inl w) hx'
end
end DL
set_option Elab.async false
set_option linter.all false
set_option maxRecDepth 100000
/-! own __eq__, constants that are tuples of ints, is True, texts -/
namespace DL
open PySem PySem.Spec L2
open PyProof.Rows hiding St
section
variable {X : Cx} {F : FP} {W : WX} {CX : CXT} {k n : Nat} {f C : Addr} {fd : FuncData} {ps : List Str} {sp : Sp} {dvs : List V} {x : Str} {p pos : Pos} {a b e o : Expr} {es : List Expr} {Ta Tb To Te : TDE} {Tas : TDA} {T : TF} {c : Str} {fs : List Str} {dflt : List D}
theorem d_make (M : Mk X.K (insA X.K c) f) (i : InsK X.K c fs) (G : FnG X.prog X.w X.K X.mg X.base (L2.CX X.prog X.w) k f fd ps (spI X.K c fs n T)) (tk : Takes X W) (wo : WOk F W) (hK : F.K = X.K) (hr : RoomG (k + 1) X.A) (hg : Gl X x) (hm : X.mg x = some (.ref (insA X.K c))) (hb : ∃ ds, Vals dvs ds ∧ Binds X.K fd ps ds) (hdv : ∀ (Z : Zn) (N : Addr → Prop) (H : Hp), Reps X.K Z N H dflt dvs)
    (ha : PA X (e :: es) (tDA F Tas)) (hdb : (x == ("__debug__" : Str)) = false := by decide) (he : starEach (e :: es) X.env = (false, eval e X.env) :: starEach es X.env := by rfl) (hpl : (backTo pos (starEach es X.env)).any (·.1) = false := by rfl) :
    PE X (.Call (.Name x p) (e :: es) [] pos) (tD F (dMk n dflt T Tas)) := by
  obtain ⟨ds, hd, hb⟩ := hb
  exact PE.imp (pe_makeS M G hr hg hm hb hd (fun σ => passAt tk σ) ha hdb he hpl) (tMk_imp hK i wo hdv)
theorem d_call0 (G : FnG X.prog X.w X.K X.mg X.base CX0 k f fd ps (spD X.K 0 T)) (hK : F.K = X.K) (hr : RoomG k X.A) (hg : Gl X x) (hm : X.mg x = some (.ref f)) (hk : PySem.W.keepIn X.K (.ref f) = true) (hb : Binds X.K fd ps []) (hdb : (x == ("__debug__" : Str)) = false := by decide) :
    PE X (.Call (.Name x p) [] [] pos) (tD F (dCall 0 T dNil)) := by
  refine ⟨fun pins s σ H Q I h => ?_⟩
  obtain ⟨N, env, Qd, f', hT, kk⟩ := h
  have q : spD X.K 0 T [] H Q E0 := ⟨F.Z, N, [], Qd, fun _ => False, by rw [← hK]; exact f'.n.bok, rfl, rfl, hT.2, fun v H2 d e2 r2 q2 => kk v H2 d e2 (by rw [hK]; exact r2) q2, fun _ _ _ _ _ _ z => z.elim⟩
  have b := hb s [] I.kIn (by simpa using G.len _ _ _ _ q)
  rw [List.append_nil] at b
  refine wpAny_Call_Name_kw (ld_glob I hg hm (PySem.W.callWith_K0 I.kIn hk (wpAny_call (codeAny_mono (run_gs (E := fun _ => E0) (us := []) (vs := []) G hr b (fun _ _ _ _ _ _ h => h.elim) I .nil q) fun r s' hq => ?_))) hdb)
  cases r with
  | error e => exact hq
  | ok fl => cases fl <;> exact hq
/-! ### x == y, two instances of a class with an own __eq__ -/
theorem inst_of {pins : List (Addr × Obj)} {σ : L2.St} {H : Hp} {s : Shared} {a C dx : Addr} {fs : List (Str × V)} (I : Inv X pins σ H s) (h : H a = some (.ins C dx fs)) : ∃ od : Obj, PySem.W.InstAt s.heap a (PySem.W.instObj C dx) C (some od) := by
  obtain ⟨mA, O, _, _, _, _⟩ := ins_get I.hok h
  obtain ⟨od, ho, hl⟩ := lookIn_ns O.ns
  exact ⟨od, O.obj, rfl, rfl, ho⟩
def rOwnG (C : Addr) (sp : Sp) (E : XK) : R2 := fun x y H Q => ∃ a dx fs b dy gs, x = .ref a ∧ y = .ref b ∧ H a = some (.ins C dx fs) ∧ H b = some (.ins C dy gs) ∧ sp [x, y] H Q E
theorem op_ownG {op : CmpOp} {g : Addr} (hop : ∀ a b, compareOp op a b = richCompare op a b) (hs : PySem.W.findIn X.K (.ref C) (cmpInfo op).2.1 = some (some (.ref g))) (hf : PySem.W.isFn X.K (.ref g) = true) (nf : PySem.W.notFirst X.K C (.ref C) = true)
    (G : FnG X.prog X.w X.K X.mg X.base CX0 n g fd ps sp) (hb : Binds X.K fd ps []) (hr : RoomG n X.A) : OpR X (compareOp op) (rOwnG C sp E0) := by
  intro pins s σ H x y v u Q I rx ry h
  obtain ⟨a, dx, vs, b, dy, ws, rfl, rfl, ha, hb', q⟩ := h
  cases (show v = Value.ref a from rx)
  cases (show u = Value.ref b from ry)
  obtain ⟨od, J⟩ := inst_of I ha
  obtain ⟨od', J'⟩ := inst_of I hb'
  obtain ⟨m, hF⟩ := I.fr
  rw [hop]
  have hl : ([.ref a, .ref b] : List Value).length = ps.length := by
    have := G.len _ _ _ _ q
    simpa using this
  have bb := hb s [.ref a, .ref b] I.kIn (by simpa using hl)
  rw [List.append_nil] at bb
  refine PySem.W.cmp_K (op := op) (tb := .ref C) hr.r.units0 hF I.ok.mod.kin J J'.type nf hs hf ?_
  refine wpAny_call (codeAny_mono (run_gs (E := fun _ => E0) (us := [.ref a, .ref b]) (vs := [.ref a, .ref b]) (Q := Q) G hr bb (fun _ _ _ _ _ _ h => h.elim) I (.cons rfl (.cons rfl .nil)) q) fun r s' hq => ?_)
  cases r with
  | error e => exact hq
  | ok fl =>
    cases fl with
    | ret u =>
      obtain ⟨z', H', I', rz, qz⟩ := hq
      exact SlX.cmpback rz ⟨z', H', I', rz, qz⟩
    | next => exact hq
    | brk => exact hq
    | cont => exact hq
def gEqI (c : Str) (T : TF) : G2 := fun x y Q => match x, y with
  | .ins c1 _ _, .ins c2 _ _ => (c1 = c ∧ c2 = c) ∧ T (fun _ => False) [x, y] Q
  | _, _ => False
theorem opd_eqI (hK : F.K = X.K) : OpD F (rOwnG (insA X.K c) (spD X.K 2 T) E0) (gEqI c T) := ⟨by
  intro N H x y dx dy Qd Q n rx ry h k
  unfold gEqI at h
  split at h
  · rename_i c1 f1 d1 c2 f2 d2
    obtain ⟨⟨e1, e2⟩, h⟩ := h
    subst e1 e2
    have rx' := rx
    have ry' := ry
    obtain ⟨a, dx, vs, ea, na, ha, _, _, _⟩ := rx'
    obtain ⟨b, dy, ws, eb, nb, hb, _, _, _⟩ := ry'
    rw [hK] at ha hb
    refine ⟨a, dx, _, b, dy, _, ea, eb, ha, hb, F.Z, N, [.ins _ f1 d1, .ins _ f2 d2], Qd, fun _ => False, by rw [← hK]; exact n.bok, ⟨x, [y], rfl, by rw [← hK]; exact rx, ⟨y, [], rfl, by rw [← hK]; exact ry, rfl⟩⟩, rfl, h, fun v H2 d e2 r2 q2 => k v H2 d e2 (by rw [hK]; exact r2) q2, fun _ _ _ _ _ _ z => z.elim⟩
  · exact h.elim⟩
theorem d_eqI {g : Addr} (i : InsK X.K c fs) (hs : PySem.W.findIn X.K (.ref (insA X.K c)) "__eq__" = some (some (.ref g))) (hf : PySem.W.isFn X.K (.ref g) = true) (G : FnG X.prog X.w X.K X.mg X.base CX0 k g fd ps (spD X.K 2 T)) (hK : F.K = X.K) (hr : RoomG k X.A) (hb : Binds X.K fd ps [])
    (ha : PE X a (tD F Ta)) (hb' : PE X b (tD F Tb)) : PE X (.Compare a [.Eq] [b] pos) (tD F (dBin (gEqI c T) Ta Tb)) := d_cmp (op_ownG (op := .Eq) (fun _ _ => rfl) hs hf i.nf G hb hr) (opd_eqI hK) ha hb' (nomark _)
theorem dt_eqI {g : Addr} (i : InsK X.K c fs) (hs : PySem.W.findIn X.K (.ref (insA X.K c)) "__eq__" = some (some (.ref g))) (hf : PySem.W.isFn X.K (.ref g) = true) (G : FnG X.prog X.w X.K X.mg X.base CX0 k g fd ps (spD X.K 2 T)) (hK : F.K = X.K) (hr : RoomG k X.A) (hb : Binds X.K fd ps [])
    (ha : PE X a (tD F Ta)) (hb' : PE X b (tD F Tb)) : PT X (.Compare a [.Eq] [b] pos) (tDT F (dTest (dBin (gEqI c T) Ta Tb))) := dt_cmp (op_ownG (op := .Eq) (fun _ _ => rfl) hs hf i.nf G hb hr) (opd_eqI hK) ha hb' (nomark _)
/-! ### a constant that is a tuple of ints -/
theorem reps_ints {K : PySem.W.Frag} {Z : Zn} {N : Addr → Prop} {H : Hp} : ∀ ns : List Int, Reps K Z N H (ns.map D.int) (ns.map V.int)
  | [] => rfl
  | n :: ns => ⟨_, _, rfl, rfl, reps_ints ns⟩
theorem d_gtup {x : Str} {A : Addr} {ns : List Int} (hK : F.K = X.K) (hg : Gl X x) (hm : X.mg x = some (.ref A)) (hT : SqT X.K NK A (ns.map V.int)) (hd : (x == ("__debug__" : Str)) = false := by decide) : PE X (.Name x pos) (tD F (dC (.tup (ns.map D.int)))) :=
  d_const (v := .ref A) (pe_glob hg hm rfl hd) fun N H => ⟨A, _, rfl, .inr (by rw [hK]; exact hT), reps_ints ns⟩
/-! ### what is never reached -/
def dNo : TDE := fun _ _ _ => False
theorem d_no : PE X e (tD F dNo) := ⟨fun _ _ _ _ _ _ ⟨_, _, _, _, h, _⟩ => h.elim⟩
def dtNo : TDT := fun _ _ _ => False
theorem dt_no : PT X e (tDT F dtNo) := ⟨fun _ _ _ _ _ _ ⟨_, _, _, _, h, _⟩ => h.elim⟩
/-! ### is True -/
theorem op_isBl : OpR X (compareOp .Is) (fun x y H Q => ∃ m n, x = .bl m ∧ y = .bl n ∧ Q (.bl (decide (m = n))) H) := by
  intro pins s σ H x y v u Q I rx ry h
  obtain ⟨m, n, rfl, rfl, q⟩ := h
  cases (show v = Value.bool m from rx)
  cases (show u = Value.bool n from ry)
  by_cases e : m = n
  · subst e
    exact wpAny_is_self rfl ⟨.bl true, H, I, rfl, by simpa using q⟩
  · exact wpAny_is_other rfl (fun z => e (Value.bool.inj z)) ⟨.bl false, H, I, rfl, by simpa [e] using q⟩
theorem op_isNotBl : OpR X (compareOp .IsNot) (fun x y H Q => ∃ m n, x = .bl m ∧ y = .bl n ∧ Q (.bl (!decide (m = n))) H) := by
  intro pins s σ H x y v u Q I rx ry h
  obtain ⟨m, n, rfl, rfl, q⟩ := h
  cases (show v = Value.bool m from rx)
  cases (show u = Value.bool n from ry)
  by_cases e : m = n
  · subst e
    exact wpAny_isNot_self rfl ⟨.bl false, H, I, rfl, by simpa using q⟩
  · exact wpAny_isNot_other rfl (fun z => e (Value.bool.inj z)) ⟨.bl true, H, I, rfl, by simpa [e] using q⟩
def gIsBl (neg : Bool) : G2 := fun x y Q => match x, y with
  | .bl m, .bl n => Q (.bl (if neg then !decide (m = n) else decide (m = n)))
  | _, _ => False
theorem opd_isBl : OpD F (fun x y H Q => ∃ m n, x = .bl m ∧ y = .bl n ∧ Q (.bl (decide (m = n))) H) (gIsBl false) := ⟨by
  intro N H x y dx dy Qd Q n rx ry h k
  unfold gIsBl at h
  split at h
  · exact ⟨_, _, rx, ry, k _ _ _ Ext.refl rep_bl h⟩
  · exact h.elim⟩
theorem opd_isNotBl : OpD F (fun x y H Q => ∃ m n, x = .bl m ∧ y = .bl n ∧ Q (.bl (!decide (m = n))) H) (gIsBl true) := ⟨by
  intro N H x y dx dy Qd Q n rx ry h k
  unfold gIsBl at h
  split at h
  · exact ⟨_, _, rx, ry, k _ _ _ Ext.refl rep_bl h⟩
  · exact h.elim⟩
theorem d_isbl (ha : PE X a (tD F Ta)) (hb : PE X b (tD F Tb)) (hm : behindInMarks .Is b = false := by rfl) : PE X (.Compare a [.Is] [b] pos) (tD F (dBin (gIsBl false) Ta Tb)) := d_cmp op_isBl opd_isBl ha hb hm
theorem dt_isbl (ha : PE X a (tD F Ta)) (hb : PE X b (tD F Tb)) (hm : behindInMarks .Is b = false := by rfl) : PT X (.Compare a [.Is] [b] pos) (tDT F (dTest (dBin (gIsBl false) Ta Tb))) := dt_cmp op_isBl opd_isBl ha hb hm
theorem d_isnotbl (ha : PE X a (tD F Ta)) (hb : PE X b (tD F Tb)) (hm : behindInMarks .IsNot b = false := by rfl) : PE X (.Compare a [.IsNot] [b] pos) (tD F (dBin (gIsBl true) Ta Tb)) := d_cmp op_isNotBl opd_isNotBl ha hb hm
theorem dt_isnotbl (ha : PE X a (tD F Ta)) (hb : PE X b (tD F Tb)) (hm : behindInMarks .IsNot b = false := by rfl) : PT X (.Compare a [.IsNot] [b] pos) (tDT F (dTest (dBin (gIsBl true) Ta Tb))) := dt_cmp op_isNotBl opd_isNotBl ha hb hm
/-! ### ys[::-1] -/
def gRevL : G1 := fun x Q => match x with
  | .lst ds => Q (.lst ds.reverse)
  | _ => False
theorem d_revL {k : Nat} {p1 p2 p3 : Pos} (hK : F.K = X.K) (he : PE X e (tD F Ta)) : PE X (.Subscript e (.Slice none none (some (.UnaryOp .USub (.Constant (.int 1) k p1) p2)) p3) pos) (tD F (dUn gRevL Ta)) := PE.imp (pe_revL he) (by
  rintro σ H Q ⟨N, env, Qd, f, hT, kk⟩
  refine ⟨N, env, _, f, hT, fun x H1 d e1 r1 q1 => ?_⟩
  cases d <;> first | exact q1.elim | skip
  rename_i ds
  obtain ⟨a, vs, rfl, _, ra, rs⟩ := r1
  have n1 := (f.ext' e1).n
  exact ⟨a, vs, rfl, .of ra, fun p hp => kk _ _ (.lst ds.reverse) (e1.trans (n1.lay hp)) (rep_newL n1 hp rs.rev) q1⟩)
/-! ### texts -/
def strsOf : List D → Option (List Str)
  | [] => some []
  | .str x :: ds => (strsOf ds).map (x :: ·)
  | _ => none
theorem strsOf_eq : ∀ {ds : List D} {xs : List Str}, strsOf ds = some xs → ds = xs.map D.str
  | [], xs, h => by cases h; rfl
  | d :: ds, xs, h => by
    cases d with
    | str x =>
      have h : (strsOf ds).map (x :: ·) = some xs := h
      cases hr : strsOf ds with
      | none => rw [hr] at h; cases h
      | some ys =>
        rw [hr] at h
        cases h
        rw [strsOf_eq hr]
        rfl
    | _ => cases h
theorem Reps.strs {K : PySem.W.Frag} {Z : Zn} {N : Addr → Prop} {H : Hp} : ∀ {ns : List Str} {vs : List V}, Reps K Z N H (ns.map D.str) vs → vs = ns.map V.str
  | [], _, h => h
  | n :: ns, _, ⟨v, r, e, h1, h2⟩ => by subst e; rw [show v = V.str n from h1, Reps.strs h2]; rfl
/-- a method of a text, with one argument -/
abbrev GM := Str → D → (D → Prop) → Prop
def dM1 (g : GM) (To Te : TDE) : TDE := fun ξ env Q => To ξ env fun x => match x with
  | .str a => Te ξ env fun y => g a y Q
  | _ => False
structure M1D (F : FP) (r : V → List V → Hp → VK → Prop) (g : GM) : Prop where
  ok : ∀ N H a y dy Qd (Q : VK), NOk F N H → Rep F.K F.Z N H dy y → g a dy Qd → (∀ v H' d, Ext F.Z H H' → Rep F.K F.Z N H' d v → Qd d → Q v H') → r (.str a) [y] H Q
theorem tM1_imp {r : V → List V → Hp → VK → Prop} {g : GM} (h : M1D F r g) : ∀ σ H Q, tD F (dM1 g To Te) σ H Q → tM1 r (tD F To) (tD F Te) σ H Q := by
  rintro σ H Q ⟨N, env, Qd, f, hT, k⟩
  refine ⟨N, env, _, f, hT, fun x H1 d e1 r1 q1 => ?_⟩
  cases d <;> first | exact q1.elim | skip
  rename_i a
  cases (show x = .str a from r1)
  refine ⟨⟨a, rfl⟩, N, env, _, f.ext' e1, q1, fun y H2 dy e2 r2 q2 => ?_⟩
  exact h.ok N H2 a y dy _ _ ((f.ext' e1).ext' e2).n r2 q2 fun v H3 d e3 r3 q3 => k v H3 d ((e1.trans e2).trans e3) r3 q3
/-- sep.join(ys) -/
def gJoin : GM := fun a y Q => match (seqOf y).bind strsOf with
  | some ys => (ys.map (·.length)).sum + ys.length * a.length ≤ 16777216 ∧ Q (.str (Txt.join a ys))
  | none => False
theorem m1_join : M1D F (fun x xs H Q => ∃ a p, ∃ ys : List Str, x = .str a ∧ xs = [.ref p] ∧ (SqL F.K H p (ys.map V.str) ∨ SqT F.K H p (ys.map V.str)) ∧ (ys.map (·.length)).sum + ys.length * a.length ≤ 16777216 ∧ Q (.str (Txt.join a ys)) H) gJoin := ⟨by
  intro N H a y dy Qd Q n ry h k
  unfold gJoin at h
  cases dy with
  | tup ds =>
    cases hs : strsOf ds with
    | none =>
      rw [show (seqOf (.tup ds)).bind strsOf = strsOf ds from rfl, hs] at h
      exact h.elim
    | some ys =>
      rw [show (seqOf (.tup ds)).bind strsOf = strsOf ds from rfl, hs] at h
      obtain ⟨p, vs, rfl, r, q⟩ := ry
      rw [strsOf_eq hs] at q
      rw [q.strs] at r
      exact ⟨a, p, ys, rfl, rfl, .inr (sqt_of r), h.1, k _ _ (.str _) Ext.refl rfl h.2⟩
  | lst ds =>
    cases hs : strsOf ds with
    | none =>
      rw [show (seqOf (.lst ds)).bind strsOf = strsOf ds from rfl, hs] at h
      exact h.elim
    | some ys =>
      rw [show (seqOf (.lst ds)).bind strsOf = strsOf ds from rfl, hs] at h
      obtain ⟨p, vs, rfl, _, r, q⟩ := ry
      rw [strsOf_eq hs] at q
      rw [q.strs] at r
      exact ⟨a, p, ys, rfl, rfl, .inl (.of r), h.1, k _ _ (.str _) Ext.refl rfl h.2⟩
  | _ => exact h.elim⟩
theorem d_join {apos pos : Pos} (hK : F.K = X.K) (ho : PE X o (tD F To)) (he : PE X e (tD F Te)) (hs : starEach [e] X.env = [(false, eval e X.env)] := by rfl) (hbase : attributeBase o "join" X.env (eval o X.env) = eval o X.env := by rfl) (hline : (apos.endLine == pos.line) = true := by rfl) :
    PE X (.Call (.Attribute o "join" apos) [e] [] pos) (tD F (dM1 gJoin To Te)) := by
  have m := m1_join (F := F)
  rw [hK] at m
  exact PE.imp (pe_join ho he hs hbase hline) (tM1_imp m)
/-- text.zfill(n) -/
def gZfill : GM := fun a y Q => match y with
  | .int i => PadOk i = true ∧ Q (.str (Txt.zfill a i))
  | _ => False
theorem m1_zfill : M1D F (fun x xs H Q => ∃ (a : Str) (i : Int), x = .str a ∧ xs = [.int i] ∧ PadOk i = true ∧ Q (.str (Txt.zfill a i)) H) gZfill := ⟨by
  intro N H a y dy Qd Q n ry h k
  unfold gZfill at h
  split at h
  · rename_i i
    cases (show y = .int i from ry)
    exact ⟨a, i, rfl, rfl, h.1, k _ _ (.str _) Ext.refl rfl h.2⟩
  · exact h.elim⟩
theorem d_zfill {apos pos : Pos} (ho : PE X o (tD F To)) (he : PE X e (tD F Te)) (hs : starEach [e] X.env = [(false, eval e X.env)] := by rfl) (hbase : attributeBase o "zfill" X.env (eval o X.env) = eval o X.env := by rfl) (hline : (apos.endLine == pos.line) = true := by rfl) :
    PE X (.Call (.Attribute o "zfill" apos) [e] [] pos) (tD F (dM1 gZfill To Te)) := PE.imp (pe_m1 PySem.F.slot_str_zfill PySem.F.type_str_zfill mt_zfill ho he hs hbase hline) (tM1_imp m1_zfill)
/-- a + b, two texts -/
def gAddS : G2 := fun x y Q => match x, y with
  | .str a, .str b => a.length + b.length ≤ sizeLine ∧ Q (.str (a ++ b))
  | _, _ => False
theorem opd_addS : OpD F (fun x y H Q => ∃ i j, x = .str i ∧ y = .str j ∧ i.length + j.length ≤ sizeLine ∧ Q (.str (i ++ j)) H) gAddS := ⟨by
  intro N H x y dx dy Qd Q n rx ry h k
  unfold gAddS at h
  split at h
  · exact ⟨_, _, rx, ry, h.1, k _ _ (.str _) Ext.refl rfl h.2⟩
  · exact h.elim⟩
theorem d_addS (ha : PE X a (tD F Ta)) (hb : PE X b (tD F Tb)) : PE X (.BinOp a .Add b pos) (tD F (dBin gAddS Ta Tb)) := d_op op_add_str opd_addS ha hb
/-- a ** b, a great base -/
def CPowB (i j : Int) : Prop := 0 ≤ j ∧ (Builtin.Int.intBits i : Int) * j ≤ 2 ^ 27
theorem op_powB : OpR X (binaryOp .Pow) (rI CPowB fun i j => .int (i ^ j.toNat)) := opI fun _ _ _ _ _ _ _ hc q => pow_int hc.1 hc.2 q
abbrev gPowB : G2 := gI CPowB fun i j => .int (i ^ j.toNat)
theorem d_powB (ha : PE X a (tD F Ta)) (hb : PE X b (tD F Tb)) : PE X (.BinOp a .Pow b pos) (tD F (dBin gPowB Ta Tb)) := d_op op_powB (opd_I fun _ _ _ _ => rfl) ha hb
/-- divmod(a, b) -/
def gDivmod : GA := fun xs Q => match xs with
  | [.int i, .int j] => CDivP i j ∧ Q (.tup [.int (i / j), .int (i % j)])
  | _ => False
theorem cd_divmod : CallD F (fun xs H Q => ∃ i j, xs = [.int i, .int j] ∧ CDivP i j ∧ ∀ p, H p = none → Q (.ref p) (upd H p (.tup [.int (i / j), .int (i % j)]))) gDivmod := ⟨by
  intro N H vs ds Qd Q n r h k
  unfold gDivmod at h
  split at h
  · rename_i i j
    obtain ⟨v, r, rfl, h1, v2, r2, rfl, h2, h3⟩ := r
    cases (show v = .int i from h1)
    cases (show v2 = .int j from h2)
    cases (show r2 = [] from h3)
    exact ⟨i, j, rfl, h.1, fun p hp => k _ _ (.tup [.int (i / j), .int (i % j)]) (n.lay hp) (rep_newT n hp (reps_ints [i / j, i % j])) h.2⟩
  · exact h.elim⟩
end
def methOf (n : Str) (s : Stmt) : Stmt := match s with
  | .ClassDef _ _ _ body _ _ _ _ _ _ _ => (body.find? fun b => match b with
    | .FunctionDef m _ _ _ _ _ _ _ _ _ => m == n
    | _ => false).getD s
  | s => s
/-! ### what the head checks of a class -/
def mkB (K : PySem.W.Frag) (c : Str) : Bool := PySem.W.makesIn K (insA K c) && (decide (PySem.W.findIn K (.ref (insA K c)) "__init__" = some (some (.ref (He.fAd K (c, some "__init__"))))) && (PySem.W.isFn K (.ref (He.fAd K (c, some "__init__"))) && PySem.W.keepIn K (.ref (insA K c))))
theorem mkB_ok {K : PySem.W.Frag} {c : Str} (h : mkB K c = true) : Mk K (insA K c) (He.fAd K (c, some "__init__")) := by
  unfold mkB at h
  simp only [Bool.and_eq_true, decide_eq_true_eq] at h
  exact ⟨h.1, h.2.1, h.2.2.1, h.2.2.2⟩
def eqB (K : PySem.W.Frag) (c : Str) : Bool := decide (PySem.W.findIn K (.ref (insA K c)) "__eq__" = some (some (.ref (He.fAd K (c, some "__eq__"))))) && PySem.W.isFn K (.ref (He.fAd K (c, some "__eq__")))
theorem eqB_ok {K : PySem.W.Frag} {c : Str} (h : eqB K c = true) : PySem.W.findIn K (.ref (insA K c)) "__eq__" = some (some (.ref (He.fAd K (c, some "__eq__")))) ∧ PySem.W.isFn K (.ref (He.fAd K (c, some "__eq__"))) = true := by
  unfold eqB at h
  simp only [Bool.and_eq_true, decide_eq_true_eq] at h
  exact h
theorem mg_ins {K : PySem.W.Frag} {h : Heap} {mg : Str → Option Value} (X : K.In h) (G : h.Ns mainGlobals mg) {c : Str} {fs : List Str} (i : InsK K c fs) : mg c = some (.ref (insA K c)) := PySem.W.mg_of X G i.at_
/-- a global tuple of ints -/
def tupIB (K : PySem.W.Frag) (x : Str) (ns : List Int) : Bool := He.tupB K x (ns.map He.Dv.int) && decide (PySem.W.nsIn K mainGlobals x = some (some (.ref (He.ga K x))))
theorem tupIB_ok {K : PySem.W.Frag} {h : Heap} {mg : Str → Option Value} (X : K.In h) (G : h.Ns mainGlobals mg) {x : Str} {ns : List Int} (c : tupIB K x ns = true) : mg x = some (.ref (He.ga K x)) ∧ SqT K NK (He.ga K x) (ns.map V.int) := by
  unfold tupIB at c
  simp only [Bool.and_eq_true, decide_eq_true_eq] at c
  refine ⟨PySem.W.mg_of X G c.2, ?_⟩
  have z := He.tupB_ok c.1 NK
  rw [List.map_map] at z
  exact z
/-- a default that is a tuple of ints -/
def dflIB (K : PySem.W.Frag) (a : Addr) (ns : List Int) : Bool := match K.lookup a with
  | some ⟨.type c, _, .seq its _, _⟩ => decide (c = "tuple") && (decide (its.size ≤ sizeLine) && He.relAll (ns.map V.int) its.toList)
  | _ => false
theorem dflIB_ok {K : PySem.W.Frag} {a : Addr} {ns : List Int} (h : dflIB K a ns = true) : SqT K NK a (ns.map V.int) := by
  unfold dflIB at h
  split at h
  · rename_i c od its n osl q
    simp only [Bool.and_eq_true, decide_eq_true_eq] at h
    obtain ⟨h1, h3, h4⟩ := h
    subst h1
    exact .inr ⟨_, its, n, q, rfl, rfl, h3, He.relAll_ok h4⟩
  · cases h
end DL
set_option Elab.async false
set_option linter.all false
set_option maxRecDepth 100000
set_option maxHeartbeats 2000000
/-! sorted(..) of data of one kind -/
namespace DL
open PySem PySem.Spec L2
open PyProof.Rows hiding St
section
variable {X : Cx} {F : FP} {e : Expr} {es : List Expr} {pos : Pos} {Tas : TDA}
def leD : D → D → Bool := W.dataLe false toP
def sortD (ds : List D) : List D := ds.mergeSort leD
structure SortOk (ds : List D) : Prop where
  pl : plainRs ds = true
  al : W.AllAlike (ds.map toP)
  so : W.Sortable (ds.map toP)
  ln : ds.length ≤ sizeLine
  dp : ∀ d ∈ ds, (toP d).depth ≤ 8
def gSort : GA := fun xs Q => match xs with
  | [.lst ds] => SortOk ds ∧ Q (.lst (sortD ds))
  | _ => False
def rSortD (K : PySem.W.Frag) : List V → Hp → VK → Prop := fun vs H Q => ∃ a xs ds Z N, vs = [.ref a] ∧ SqL K H a xs ∧ Reps K Z N H ds xs ∧ SortOk ds ∧
  ∀ ys p, Reps K Z N H (sortD ds) ys → H p = none → Q (.ref p) (upd H p (.lst ys))
theorem each_of {K : PySem.W.Frag} {Z : Zn} {N : Addr → Prop} {H : Hp} : ∀ {ds : List D} {xs : List V} {us : List Value}, Reps K Z N H ds xs → Vals xs us → W.EachIs (fun u d => ∃ x, RelV x u ∧ Rep K Z N H d x) us ds
  | [], _, _, h, r => by
    cases h
    cases r
    exact .nil
  | d :: ds, _, _, h, r => by
    obtain ⟨v, w, rfl, h1, h2⟩ := h
    cases r with
    | cons r1 r2 => exact .cons ⟨v, r1, h1⟩ (each_of h2 r2)
theorem of_each {K : PySem.W.Frag} {Z : Zn} {N : Addr → Prop} {H : Hp} : ∀ {ds : List D} {us : List Value}, W.EachIs (fun u d => ∃ x, RelV x u ∧ Rep K Z N H d x) us ds → ∃ xs, Reps K Z N H ds xs ∧ Vals xs us
  | [], _, h => by
    cases h
    exact ⟨[], rfl, .nil⟩
  | d :: ds, _, h => by
    cases h with
    | cons h1 h2 =>
      obtain ⟨x, r1, r2⟩ := h1
      obtain ⟨xs, q1, q2⟩ := of_each h2
      exact ⟨x :: xs, ⟨x, xs, rfl, r2, q1⟩, .cons r1 q2⟩
theorem each_reads {pins : List (Addr × Obj)} {σ : L2.St} {H : Hp} {s : Shared} {Z : Zn} {N : Addr → Prop} (I : Inv X pins σ H s) (c : smB X.K = true) : ∀ {ds : List D} {xs : List V} {us : List Value}, plainRs ds = true → Reps X.K Z N H ds xs → Vals xs us → W.EachIs (fun v b => ∃ as, Reads s.heap v (toP b) as) us ds
  | [], _, _, _, h, r => by
    cases h
    cases r
    exact .nil
  | d :: ds, _, _, p, h, r => by
    obtain ⟨v, w, rfl, h1, h2⟩ := h
    obtain ⟨p1, p2⟩ := Bool.and_eq_true_iff.mp p
    cases r with
    | cons r1 r2 =>
      obtain ⟨as, q, _⟩ := Rep.reads I c d v _ p1 h1 r1
      exact .cons ⟨as, q⟩ (each_reads I c p2 h2 r2)
theorem size_push {h : Heap} {o : Obj} : (h.push o).objs.size = h.objs.size + 1 := by
  simp [Heap.push]
theorem cr_sortD (c : smB X.K = true) (hu : X.A.units + 80 < cLine) : CallR X (.builtin "sorted") (rSortD X.K) := by
  intro pins s σ H vs us Q I r h
  obtain ⟨a, xs, ds, Z, N, rfl, ra, rs, ok, k⟩ := h
  obtain ⟨u, rfl, rv⟩ := vals1 r
  cases (show u = Value.ref a from rv)
  obtain ⟨its, rv', ⟨o, n, ho, hc, _, hd⟩, ln⟩ := I.list ra
  obtain ⟨m, fr⟩ := I.fr
  refine W.sorted_data (bs := ds) (enc := toP) (R := fun u d => ∃ x, RelV x u ∧ Rep X.K Z N H d x) (vs := its) ⟨o, ho, hc, n, hd⟩ (each_of rs rv') (each_reads I c ok.pl rs rv') ok.al ok.so ok.ln (fun d hd => by have := ok.dp d hd; omega) (fun out hl he => ?_)
  obtain ⟨c', _, nw, _, keep⟩ := W.sorted_news (news := []) fr (fun _ h => by cases h) its out
  obtain ⟨ys, r1, r2⟩ := of_each he
  have hn : H (s.heap.objs.size + 1) = none := by
    have J := I.kept (t' := s.toks) (h' := s.heap.push (seqObj "list" #[] 0)) (fun b u h => Heap.get?_push_of_some _ h)
    have z := J.fresh
    rw [size_push] at z
    exact z
  have l1 : ys.length ≤ sizeLine := by
    have e : (sortD ds).length = ys.length := r1.length
    have e2 : (sortD ds).length = ds.length := List.length_mergeSort ds
    have := ok.ln
    omega
  exact ⟨.ref (s.heap.objs.size + 1), _, I.laid (o := .lst ys) keep (Nat.le_succ _) (by
    show ys.length ≤ sizeLine ∧ ∃ its n, Vals ys its ∧ _ = some _
    exact ⟨l1, out, c', r2, (nw _ List.mem_cons_self).1⟩), rfl, k ys _ r1 hn⟩
theorem cd_sortD : CallD F (rSortD F.K) gSort := ⟨by
  intro N H vs ds Qd Q n r h k
  unfold gSort at h
  split at h
  · rename_i ds
    obtain ⟨v, w, rfl, h1, h2⟩ := r
    cases h2
    obtain ⟨a, xs, rfl, _, ra, rs⟩ := h1
    exact ⟨a, xs, ds, F.Z, N, rfl, .of ra, rs, h.1, fun ys p r1 hp => k _ _ (.lst (sortD ds)) (n.lay hp) (rep_newL n hp r1) h.2⟩
  · exact h.elim⟩
theorem d_sort {p : Pos} (hK : F.K = X.K) (c : smB X.K = true) (hu : X.A.units + 80 < cLine) (hg : Gl X "sorted") (hm : X.mg "sorted" = none) (ha : PA X (e :: es) (tDA F Tas))
    (he : starEach (e :: es) X.env = (false, eval e X.env) :: starEach es X.env := by rfl) (hpl : (backTo pos (starEach es X.env)).any (·.1) = false := by rfl) : PE X (.Call (.Name "sorted" p) (e :: es) [] pos) (tD F (dCB gSort Tas)) := by
  have z := cd_sortD (F := F)
  rw [hK] at z
  exact d_callB z (cr_sortD c hu) hg hm (by decide +kernel) ha (by decide) (by decide) he hpl
end
end DL
set_option Elab.async false
set_option linter.all false
set_option maxRecDepth 100000
set_option maxHeartbeats 2000000
/-! comprehensions with any target: [e for a, b in xs], [e for (a, b), c in xs] -/
namespace DL
open PySem PySem.Spec L2
open PyProof.Rows hiding St
section
theorem wipe_get {σ : L2.St} : ∀ (js : List Nat) (k : Nat), (L2.wipe σ js)[k]? = if k ∈ js then (if k < σ.length then some none else none) else σ[k]?
  | [], k => by simp [L2.wipe]
  | v :: vs, k => by
    show ((L2.wipe σ vs).set v none)[k]? = _
    have e := wipe_get (σ := σ) vs k
    rw [List.getElem?_set]
    by_cases h : v = k
    · subst h
      rw [if_pos rfl, if_pos List.mem_cons_self]
      have l : ∀ vs : List Nat, (L2.wipe σ vs).length = σ.length := by
        intro vs
        induction vs with
        | nil => rfl
        | cons v vs ih => show ((L2.wipe σ vs).set v none).length = _; rw [List.length_set, ih]
      rw [l vs]
    · rw [if_neg h, e]
      have : (k ∈ v :: vs) = (k ∈ vs) := by
        simp only [List.mem_cons, eq_iff_iff]
        constructor
        · rintro (h2 | h2)
          · exact (h h2.symm).elim
          · exact h2
        · exact .inr
      simp only [this]
theorem wipe_set {σ : L2.St} {js : List Nat} {i : Nat} {x : Option V} (m : i ∈ js) : L2.wipe (σ.set i x) js = L2.wipe σ js := by
  apply List.ext_getElem?
  intro k
  rw [wipe_get, wipe_get, List.length_set]
  by_cases h : k ∈ js
  · rw [if_pos h, if_pos h]
  · rw [if_neg h, if_neg h, List.getElem?_set_ne (fun e => h (by rw [← e]; exact m))]
theorem wipe_wipe {σ : L2.St} {js : List Nat} : L2.wipe (L2.wipe σ js) js = L2.wipe σ js := by
  have l : ∀ vs : List Nat, (L2.wipe σ vs).length = σ.length := by
    intro vs
    induction vs with
    | nil => rfl
    | cons v vs ih => show ((L2.wipe σ vs).set v none).length = _; rw [List.length_set, ih]
  apply List.ext_getElem?
  intro k
  rw [wipe_get, l]
  by_cases h : k ∈ js
  · rw [if_pos h, wipe_get, if_pos h]
  · rw [if_neg h]
variable {X : Cx} {F : FP} {e : Expr} {es : List Expr} {js : List Nat}
/-- a target that sets these names alone -/
def gDw (F : FP) (js : List Nat) (G : TDG) : TG := fun v σ H Q => ∃ N env d Qd, FOk F N σ H env ∧ Rep F.K F.Z N H d v ∧ G d env Qd ∧ ∀ σ' env', FOk F N σ' H env' → L2.wipe σ' js = L2.wipe σ js → Qd env' → Q σ' H
def gDsw (F : FP) (js : List Nat) (G : TDGs) : TGs := fun vs σ H Q => ∃ N env ds Qd, FOk F N σ H env ∧ Reps F.K F.Z N H ds vs ∧ G ds env Qd ∧ ∀ σ' env', FOk F N σ' H env' → L2.wipe σ' js = L2.wipe σ js → Qd env' → Q σ' H
theorem dw_name {i : Nat} (h : PG X e (gName i)) (m : i ∈ js) : PG X e (gDw F js (dgName i)) := PG.imp h (by
  rintro v σ H Q ⟨N, env, d, Qd, f, r, hG, k⟩
  exact k _ _ (f.set i r) (wipe_set m) hG)
theorem dsw_nil : PGs X [] (gDsw F js dgNil) := PGs.imp pgs_nil (by
  rintro v σ H Q ⟨N, env, ds, Qd, f, r, hG, k⟩
  cases ds with
  | nil => exact ⟨r, k _ _ f rfl hG⟩
  | cons d ds => exact hG.elim)
theorem dsw_cons {G : TDG} {Gs : TDGs} (h1 : PG X e (gDw F js G)) (h2 : PGs X es (gDsw F js Gs)) (hc : (assignEach (e :: es) X.env).map (·.2) = assign e X.env :: (assignEach es X.env).map (·.2) := by rfl) : PGs X (e :: es) (gDsw F js (dgCons G Gs)) := PGs.imp (pgs_cons h1 h2 hc) (by
  rintro v σ H Q ⟨N, env, ds, Qd, f, r, hG, k⟩
  cases ds with
  | nil => exact hG.elim
  | cons d ds =>
    obtain ⟨v0, vr, rfl, r1, r2⟩ := r
    exact ⟨v0, vr, rfl, N, env, d, _, f, r1, hG, fun σ' env' f' w q => ⟨N, env', ds, _, f', r2, q, fun σ2 env2 f2 w2 q2 => k _ _ f2 (w2.trans w) q2⟩⟩)
theorem dw_tup {Gs : TDGs} {k n : Nat} {pos : Pos} (hK : F.K = X.K) (hc : X.calm = true) (h : PGs X es (gDsw F js Gs)) (hn : (assignEach es X.env).length = n := by rfl) (hst : (assignEach es X.env).findIdx? (·.1) = none := by rfl) :
    PG X (.Tuple es k pos) (gDw F js (dgTup n Gs)) := PG.imp (pg_tup hc h hn hst) (by
  rintro v σ H Q ⟨N, env, d, Qd, f, r, hG, k⟩
  cases d <;> first | exact hG.elim | skip
  rename_i ds
  obtain ⟨a, vs, rfl, r1, r2⟩ := r
  exact ⟨a, vs, rfl, by rw [← hK]; exact sqt_of r1, by rw [← r2.length]; exact hG.1, N, env, ds, _, f, r2, hG.2, k⟩)
end
section
variable {X : Cx} {F : FP} {Ta : TDE} {Tas : TDA} {N : Addr → Prop} {σ : L2.St} {H1 H' : Hp} {env : SE} {A : Addr} {tt : TDT} {te : TDE} {all : List D} {Qd : D → Prop} {js : List Nat} {G : TDG}
theorem lc_turnG (f : FOk F N σ H1 env) (hA : H1 A = none) (hz : all.length ≤ sizeLine) {i : Nat} {d : D} {x : V} (hd : all[i]? = some d) (r : Rep F.K F.Z N H1 d x) (L : LcAt F N H1 A G tt te (wipeD env js) all Qd i H') :
    gDw F js G x (L2.wipe σ js) H' fun σ2 H2 => L2.wipe σ2 js = L2.wipe σ js ∧ tDT F.calm tt σ2 H2 fun b H3 =>
      if b = true then tD F.calm te σ2 H3 fun y H4 => ∃ acc, H4 A = some (.lst acc) ∧ acc.length < sizeLine ∧ LcAt F N H1 A G tt te (wipeD env js) all Qd (i + 1) (upd H4 A (.lst (acc ++ [y]))) else LcAt F N H1 A G tt te (wipeD env js) all Qd (i + 1) H3 := by
  obtain ⟨ext, acc, ds, h1, h2, h3, h4⟩ := L
  obtain ⟨hi, e⟩ := List.getElem?_eq_some_iff.mp hd
  rw [List.drop_eq_getElem_cons hi, e] at h4
  have f1 : FOk F (fun q => N q ∨ q = A) (L2.wipe σ js) H' (wipeD env js) := (f.with' kp_lst hA ext h1).wipe js
  have mv : ∀ r u, ¬ N r → Kp u → H1 r = some u → H' r = some u ∧ ¬ (N r ∨ r = A) := fun r u n k h => ⟨ext.keep r u (fun z => n (f.n.z r z)) k h, fun z => z.elim n (ne_of_none h hA)⟩
  have r1 : Rep F.K F.Z (fun q => N q ∨ q = A) H' d x := Rep.mono mv d x r
  have nz : ∀ p, InZ F.Z p → p ≠ A := fun p z e => by
    obtain ⟨o, q, _⟩ := f.n.all p (f.n.z p z)
    rw [e, hA] at q; cases q
  refine ⟨_, _, d, _, f1, r1, h4, fun σ2 env2 f2 w q2 => ⟨w.trans wipe_wipe, ?_⟩⟩
  refine ⟨_, _, _, f2.wish _, q2, fun b H3 e3 q3 => ?_⟩
  have x3 := ext.trans e3
  have a3 : H3 A = some (.lst acc) := e3.keep A _ (fun z => nz A z rfl) kp_lst h1
  have f3 := f1.ext' e3
  by_cases hb : b = true
  · subst hb
    rw [if_pos rfl] at q3
    refine iteT ?_
    refine ⟨_, _, _, (f2.ext' e3).wish _, q3, fun y H4 dy e4 ry q4 => ?_⟩
    have a4 : H4 A = some (.lst acc) := e4.keep A _ (fun z => nz A z rfl) kp_lst a3
    have x4 := x3.trans e4
    refine ⟨acc, a4, by omega, ⟨fun p o n k h => ?_, fun dk => ?_⟩, acc ++ [y], ds ++ [dy], upd_same, by simp; omega, ?_, ?_⟩
    · rw [upd_ne (ne_of_none h hA)]
      exact x4.keep p o n k h
    · refine ⟨fun a l ez => ?_, fun p hp => ?_⟩
      · obtain ⟨xs, m, c, k1, k2, k3⟩ := (x4.deck dk).1 a l ez
        exact ⟨xs, m, c, by rw [upd_ne (nz a ⟨a, l, ez, .inl rfl⟩)]; exact k1, by rw [upd_ne (nz l ⟨a, l, ez, .inr rfl⟩)]; exact k2, k3⟩
      · exact tab_upd a4 kp_lst (fun _ h => by cases h) ((x4.deck dk).2 p hp)
    · have mv4 : ∀ r u, ¬ (N r ∨ r = A) → Kp u → H4 r = some u → upd H4 A (.lst (acc ++ [y])) r = some u ∧ ¬ (N r ∨ r = A) := fun r u n _ h => ⟨by rw [upd_ne (fun z => n (.inr z))]; exact h, n⟩
      have h4' : Reps F.K F.Z (fun q => N q ∨ q = A) H4 ds acc := (h3.ext e3 f1.n.z).ext e4 f1.n.z
      exact (Reps.mono mv4 _ _ h4').snoc (Rep.mono mv4 _ _ ry)
    · have : (fun ys => Qd (.lst (ds ++ [dy] ++ ys))) = fun ys => Qd (.lst (ds ++ dy :: ys)) := by
        funext ys; rw [List.append_assoc]; rfl
      rw [this]
      exact q4
  · rw [Bool.not_eq_true] at hb
    subst hb
    rw [if_neg Bool.false_ne_true] at q3
    refine iteF ?_
    exact ⟨x3, acc, ds, a3, by omega, h3.ext e3 f1.n.z, q3⟩
/-- over a list or a tuple, whichever the value is (u: is it a tuple?) -/
def dLcG (u : Bool) (T : TDE) (js : List Nat) (G : TDG) (tt : TDT) (te : TDE) : TDE := fun ξ env Q => T ξ env fun d => match u, d with
  | false, .lst ds => ds.length ≤ sizeLine ∧ lcD G tt te (wipeD env js) ds fun ys => Q (.lst ys)
  | true, .tup ds => ds.length ≤ sizeLine ∧ lcD G tt te (wipeD env js) ds fun ys => Q (.lst ys)
  | _, _ => False
theorem lcG_imp : ∀ σ H Q, tD F (dLcG false Ta js G tt te) σ H Q → tLc (iList F.K (tD F Ta)) (gDw F js G) (tDT F.calm tt) (tD F.calm te) js σ H Q := by
  rintro σ H Q ⟨N, env, Qd, f, hT, k⟩
  refine ⟨N, env, _, f, hT, fun v H1 d e1 r q => ?_⟩
  cases d <;> first | exact q.elim | skip
  rename_i ds
  obtain ⟨a, vs, rfl, na, ra, rs⟩ := r
  have f1 := f.ext' e1
  refine ⟨a, rfl, ⟨vs, SqL.of ra⟩, fun A hA => ?_⟩
  refine lc_list (K := F.K) (a := a) (xs := vs) (fun i H' => LcAt F N H1 A G tt te (wipeD env js) ds Qd i H') (lc_start f1.n hA q.2) (fun i H' _ L => SqL.of (L.ext.keep a _ (fun z => na (f.n.z a z)) kp_lst ra)) (fun i x H' hx L => ?_) (fun H' L => lc_endZ f1 hA e1 k rs.length L)
  obtain ⟨d, hd, rd⟩ := rs.getV hx
  exact lc_turnG f1 hA q.1 hd rd L
theorem lcGT_imp : ∀ σ H Q, tD F (dLcG true Ta js G tt te) σ H Q → tLc (iTup F.K (tD F Ta)) (gDw F js G) (tDT F.calm tt) (tD F.calm te) js σ H Q := by
  rintro σ H Q ⟨N, env, Qd, f, hT, k⟩
  refine ⟨N, env, _, f, hT, fun v H1 d e1 r q => ?_⟩
  cases d <;> first | exact q.elim | skip
  rename_i ds
  obtain ⟨a, vs, rfl, ra, rs⟩ := r
  have f1 := f.ext' e1
  refine ⟨a, rfl, ⟨vs, sqt_of ra⟩, fun A hA => ?_⟩
  refine lc_tup (K := F.K) (a := a) (xs := vs) (fun i H' => LcAt F N H1 A G tt te (wipeD env js) ds Qd i H') (lc_start f1.n hA q.2) (fun i H' _ L => ?_) (fun i x H' hx L => ?_) (fun H' L => lc_endZ f1 hA e1 k rs.length L)
  · refine sqt_of (N := N) ?_
    rcases ra with ⟨n, ra⟩ | ra
    · exact .inl ⟨n, L.ext.keep a _ (fun z => n (f.n.z a z)) kp_tup ra⟩
    · exact .inr ra
  obtain ⟨d, hd, rd⟩ := rs.getV hx
  exact lc_turnG f1 hA q.1 hd rd L
variable {e elt iter a : Expr} {ifs : List Expr} {scope : Scope} {own : List (Str × Nat)} {pos p pos' spos py : Pos} {tg : Expr} {i : Nat} {y : Str}
theorem d_lcG (hK : F.K = X.K) (hc : X.calm = true) (hN : X.N.Nodup) (hi : PE X iter (tD F Ta)) (ok : BlkOk X.N X.env.scope scope own) (hv : own.map (·.2) = js)
    (hg : ∀ (s : Shared) (H : Hp) (C : Addr) (cl : List (Str × Addr)) (fp : List Addr), PG (X.blk s H scope (compEnvC scope cl C X.env) fp) tg (gDw F js G)) (ht : ∀ (s : Shared) (H : Hp) (C : Addr) (cl : List (Str × Addr)) (fp : List Addr), PTs (X.blk s H scope (compEnvC scope cl C X.env) fp) ifs (tDT F.calm tt))
    (he : ∀ (s : Shared) (H : Hp) (C : Addr) (cl : List (Str × Addr)) (fp : List Addr), PE (X.blk s H scope (compEnvC scope cl C X.env) fp) elt (tD F.calm te)) (hs : ∀ x, foldedSetIterable iter X.env x = pure x := by intro _; rfl) :
    PE X (.ListComp elt [⟨tg, iter, ifs, 0⟩] scope pos) (tD F (dLcG false Ta js G tt te)) := by
  have z := pe_lc (pos := pos) hc hN (pi_list hi) ok hg ht he hs
  rw [hv] at z
  exact PE.imp z (by rw [← hK]; exact lcG_imp)
theorem d_lcGT (hK : F.K = X.K) (hc : X.calm = true) (hN : X.N.Nodup) (hi : PE X iter (tD F Ta)) (ok : BlkOk X.N X.env.scope scope own) (hv : own.map (·.2) = js)
    (hg : ∀ (s : Shared) (H : Hp) (C : Addr) (cl : List (Str × Addr)) (fp : List Addr), PG (X.blk s H scope (compEnvC scope cl C X.env) fp) tg (gDw F js G)) (ht : ∀ (s : Shared) (H : Hp) (C : Addr) (cl : List (Str × Addr)) (fp : List Addr), PTs (X.blk s H scope (compEnvC scope cl C X.env) fp) ifs (tDT F.calm tt))
    (he : ∀ (s : Shared) (H : Hp) (C : Addr) (cl : List (Str × Addr)) (fp : List Addr), PE (X.blk s H scope (compEnvC scope cl C X.env) fp) elt (tD F.calm te)) (hs : ∀ x, foldedSetIterable iter X.env x = pure x := by intro _; rfl) :
    PE X (.ListComp elt [⟨tg, iter, ifs, 0⟩] scope pos) (tD F (dLcG true Ta js G tt te)) := by
  have z := pe_lc (pos := pos) hc hN (pi_tup hi) ok hg ht he hs
  rw [hv] at z
  exact PE.imp z (by rw [← hK]; exact lcGT_imp)
/-- a list or a tuple: whichever it is -/
def dLcA (T : TDE) (js : List Nat) (G : TDG) (tt : TDT) (te : TDE) : TDE := fun ξ env Q => dLcG false T js G tt te ξ env Q ∨ dLcG true T js G tt te ξ env Q
theorem lcA_or : ∀ σ H Q, tD F (dLcA Ta js G tt te) σ H Q → tD F (dLcG false Ta js G tt te) σ H Q ∨ tD F (dLcG true Ta js G tt te) σ H Q := by
  rintro σ H Q ⟨N, env, Qd, f, hT, k⟩
  rcases hT with hT | hT
  · exact .inl ⟨N, env, Qd, f, hT, k⟩
  · exact .inr ⟨N, env, Qd, f, hT, k⟩
theorem d_lcA (hK : F.K = X.K) (hc : X.calm = true) (hN : X.N.Nodup) (hi : PE X iter (tD F Ta)) (ok : BlkOk X.N X.env.scope scope own) (hv : own.map (·.2) = js)
    (hg : ∀ (s : Shared) (H : Hp) (C : Addr) (cl : List (Str × Addr)) (fp : List Addr), PG (X.blk s H scope (compEnvC scope cl C X.env) fp) tg (gDw F js G)) (ht : ∀ (s : Shared) (H : Hp) (C : Addr) (cl : List (Str × Addr)) (fp : List Addr), PTs (X.blk s H scope (compEnvC scope cl C X.env) fp) ifs (tDT F.calm tt))
    (he : ∀ (s : Shared) (H : Hp) (C : Addr) (cl : List (Str × Addr)) (fp : List Addr), PE (X.blk s H scope (compEnvC scope cl C X.env) fp) elt (tD F.calm te)) (hs : ∀ x, foldedSetIterable iter X.env x = pure x := by intro _; rfl) :
    PE X (.ListComp elt [⟨tg, iter, ifs, 0⟩] scope pos) (tD F (dLcA Ta js G tt te)) :=
  PE.imp (PE.or (d_lcG (pos := pos) hK hc hN hi ok hv hg ht he hs) (d_lcGT (pos := pos) hK hc hN hi ok hv hg ht he hs)) fun σ H Q h => by
    rcases lcA_or σ H Q h with h | h
    · exact .inl h
    · exact .inr h
end
end DL
set_option Elab.async false
set_option linter.all false
set_option maxRecDepth 100000
set_option maxHeartbeats 2000000
/-! dict displays of more keys, of a key that is reckoned; d["key"] -/
namespace DL
open PySem PySem.Spec L2
open PyProof.Rows hiding St
section
variable {X : Cx} {F : FP} {e a b : Expr} {es : List Expr} {pos : Pos} {Ta Tb : TDE}
def dAll : List TDE → TDA
  | [] => fun _ _ Q => Q []
  | T :: Ts => fun ξ env Q => T ξ env fun d => dAll Ts ξ env fun ds => Q (d :: ds)
theorem pairs_imp {N : Addr → Prop} {σ : L2.St} {env : SE} {R : List (V × V) → Hp → Prop} : ∀ (ks : List Key) (Ts : List TDE) (H : Hp) (Qd : List D → Prop), ks.length = Ts.length → FOk F N σ H env → dAll Ts F.ex env Qd →
    (∀ ds vs H', Ext F.Z H H' → Reps F.K F.Z N H' ds vs → vs.length = ks.length → Qd ds → R ((ks.map kV).zip vs) H') → tPairs ((ks.zip Ts).map fun p => (tC (kV p.1), tD F p.2)) σ H R
  | [], [], H, Qd, _, f, h, k => k [] [] H Ext.refl rfl rfl h
  | [], _ :: _, _, _, h, _, _, _ => by cases h
  | _ :: _, [], _, _, h, _, _, _ => by cases h
  | x :: ks, T :: Ts, H, Qd, hl, f, h, k => by
    show tC (kV x) σ H fun y H1 => tD F T σ H1 fun v H2 => tPairs ((ks.zip Ts).map fun p => (tC (kV p.1), tD F p.2)) σ H2 fun ps H3 => R ((y, v) :: ps) H3
    show tD F T σ H fun v H2 => tPairs ((ks.zip Ts).map fun p => (tC (kV p.1), tD F p.2)) σ H2 fun ps H3 => R ((kV x, v) :: ps) H3
    refine ⟨N, env, _, f, h, fun v H1 d e1 r1 q1 => ?_⟩
    refine pairs_imp ks Ts H1 _ (by simpa using hl) (f.ext' e1) q1 fun ds vs H2 e2 r2 l2 q2 => ?_
    exact k (d :: ds) (v :: vs) H2 (e1.trans e2) ⟨v, vs, rfl, r1.ext e2 f.n.z, r2⟩ (by simpa using l2) q2
def dDictN (ks : List Key) (Ts : List TDE) : TDE := fun ξ env Q => dAll Ts ξ env fun ds => Q (.dct ks ds)
theorem d_dictN {keys : List (Option Expr)} {values : List Expr} {ks : List Key} {Ts : List TDE} (h : PPs X pos keys values ((ks.zip Ts).map fun p => (tC (kV p.1), tD F p.2))) (hl : ks.length = Ts.length) (hk : ks.length ≤ 15)
    (hm : ∀ vs : List V, vs.length = ks.length → mergeK [] (ks.zip vs) = ks.zip vs) (h1 : (keys.all fun x => x.isSome) = true := by rfl) (h2 : keys.length = values.length := by rfl) (h3 : keys ≠ [] := by intro z; cases z) (h4 : keys.length ≤ 15 := by decide) :
    PE X (.Dict keys values pos) (tD F (dDictN ks Ts)) := PE.imp (pe_disp h h1 h2 h3 h4) (by
  rintro σ H Q ⟨N, env, Qd, f, hT, k⟩
  intro p hp
  have np := f.n.fresh hp
  have fp := f.with (o := .dK []) kp_dk hp (f.nb hp)
  refine pairs_imp ks Ts _ _ hl fp hT fun ds vs H1 e1 r1 l1 q1 => ?_
  have hp1 : H1 p = some (.dK []) := e1.keep p _ (fun z => np (f.n.z p z)) kp_dk upd_same
  refine ⟨hp1, ks.zip vs, ?_, by rw [List.length_zip]; omega, ?_⟩
  · rw [List.zip_map_left]
    rfl
  rw [hm vs l1]
  have nz : ¬ InZ F.Z p := fun z => np (f.n.z p z)
  have ee : Ext F.Z H (upd H1 p (.dK (ks.zip vs))) := by
    have e0 := (f.n.lay (o := .dK []) hp).trans e1
    refine ⟨fun q o n kp h => ?_, fun dk => ⟨fun a l ez => ?_, fun q hq => tab_upd hp1 kp_dk (fun _ h => by cases h) ((e0.deck dk).2 q hq)⟩⟩
    · rw [upd_ne (ne_of_none h hp)]
      exact e0.keep q o n kp h
    · obtain ⟨xs, m, c, k1, k2, k3⟩ := (e0.deck dk).1 a l ez
      exact ⟨xs, m, c, by rw [upd_ne (fun z => nz (by rw [← z]; exact ⟨a, l, ez, .inl rfl⟩))]; exact k1, by rw [upd_ne (fun z => nz (by rw [← z]; exact ⟨a, l, ez, .inr rfl⟩))]; exact k2, k3⟩
  refine k _ _ (.dct ks ds) ee ⟨p, vs, rfl, np, upd_same, l1.symm, ?_⟩ q1
  refine Reps.mono (fun q o n kp h => ⟨?_, fun z => n (.inl z)⟩) ds vs r1
  rw [upd_ne (fun z => n (.inr z))]
  exact h)
/-- {i: e}, the key an int that is reckoned -/
def dDictV (Tk T : TDE) : TDE := fun ξ env Q => Tk ξ env fun x => match x with
  | .int i => T ξ env fun d => Q (.dct [.inl i] [d])
  | _ => False
theorem d_dictV {ke ve : Expr} {Tk : TDE} (hk : PE X ke (tD F Tk)) (hv : PE X ve (tD F Ta)) : PE X (.Dict [some ke] [ve] pos) (tD F (dDictV Tk Ta)) := PE.imp (pe_disp (pps_cons hk hv pps_nil) rfl rfl (fun z => by cases z) (by show 1 ≤ 15; decide)) (by
  rintro σ H Q ⟨N, env, Qd, f, hT, k⟩
  intro p hp
  have np := f.n.fresh hp
  have fp := f.with (o := .dK []) kp_dk hp (f.nb hp)
  refine ⟨_, env, _, fp, hT, fun kv H0 dk e0 r0 q0 => ?_⟩
  cases dk <;> first | exact q0.elim | skip
  rename_i i
  cases (show kv = .int i from r0)
  refine ⟨_, env, _, fp.ext' e0, q0, fun v H1 d e1' r1 q1 => ?_⟩
  have e1 := e0.trans e1'
  have hp1 : H1 p = some (.dK []) := e1.keep p _ (fun z => np (f.n.z p z)) kp_dk upd_same
  refine ⟨hp1, [(.inl i, v)], rfl, (by show 1 ≤ 15; decide), ?_⟩
  have nz : ¬ InZ F.Z p := fun z => np (f.n.z p z)
  have ee : Ext F.Z H (upd H1 p (.dK (mergeK [] [(.inl i, v)]))) := by
    have e0 := (f.n.lay (o := .dK []) hp).trans e1
    refine ⟨fun q o n kp h => ?_, fun dk => ⟨fun a l ez => ?_, fun q hq => tab_upd hp1 kp_dk (fun _ h => by cases h) ((e0.deck dk).2 q hq)⟩⟩
    · rw [upd_ne (ne_of_none h hp)]
      exact e0.keep q o n kp h
    · obtain ⟨xs, m, c, k1, k2, k3⟩ := (e0.deck dk).1 a l ez
      exact ⟨xs, m, c, by rw [upd_ne (fun z => nz (by rw [← z]; exact ⟨a, l, ez, .inl rfl⟩))]; exact k1, by rw [upd_ne (fun z => nz (by rw [← z]; exact ⟨a, l, ez, .inr rfl⟩))]; exact k2, k3⟩
  refine k _ _ (.dct [.inl i] [d]) ee ⟨p, [v], rfl, np, ?_, rfl, v, [], rfl, ?_, rfl⟩ q1
  · rw [upd_same]
    rfl
  · refine Rep.mono (fun q o n kp h => ⟨?_, fun z => n (.inl z)⟩) d v r1
    rw [upd_ne (fun z => n (.inr z))]
    exact h)
/-! ### d["key"] -/
def keyD (ks : List Key) (ds : List D) (k : Key) : Option D := ((ks.zip ds).find? fun kv => decide (kv.1 = k)).map (·.2)
theorem keyD_rep {N : Addr → Prop} {H : Hp} {k : Key} {d : D} : ∀ {ks : List Key} {ds : List D} {vs : List V}, Reps F.K F.Z N H ds vs → keyD ks ds k = some d → ∃ v, valV (ks.zip vs) k = some v ∧ Rep F.K F.Z N H d v
  | [], _, _, _, h => by cases h
  | x :: ks, [], _, _, h => by cases h
  | x :: ks, y :: ds, _, r, h => by
    obtain ⟨v, w, rfl, r1, r2⟩ := r
    by_cases e : x = k
    · have z : keyD (x :: ks) (y :: ds) k = some y := by
        unfold keyD
        rw [List.zip_cons_cons, List.find?_cons_of_pos (by simpa using e)]
        rfl
      rw [z] at h
      cases h
      refine ⟨v, ?_, r1⟩
      unfold valV
      rw [List.zip_cons_cons, List.find?_cons_of_pos (by simpa using e)]
      rfl
    · have z : keyD (x :: ks) (y :: ds) k = keyD ks ds k := by
        unfold keyD
        rw [List.zip_cons_cons, List.find?_cons_of_neg (by simpa using e)]
      rw [z] at h
      obtain ⟨u, h1, h2⟩ := keyD_rep r2 h
      refine ⟨u, ?_, h2⟩
      unfold valV at h1 ⊢
      rw [List.zip_cons_cons, List.find?_cons_of_neg (by simpa using e)]
      exact h1
def dKey (T : TDE) (x : Str) : TDE := fun ξ env Q => T ξ env fun d => match d with
  | .dct ks ds => (match keyD ks ds (.inr x) with
    | some d => Q d
    | none => False)
  | _ => False
theorem d_key {x : Str} (hu : X.A.units + 80 < cLine) (ha : PE X a (tD F Ta)) (hb : PE X b (tC (.str x))) (hn : NoSl b := by intro ov iv; rfl) : PE X (.Subscript a b pos) (tD F (dKey Ta x)) := PE.imp (pe_dget (by omega) ha hb hn) (by
  rintro σ H Q ⟨N, env, Qd, f, hT, k⟩
  refine ⟨N, env, _, f, hT, fun v H1 d e1 r1 q1 => ?_⟩
  cases d <;> first | exact q1.elim | skip
  rename_i ks ds
  dsimp only at q1
  split at q1
  · rename_i d hd
    obtain ⟨a, vs, rfl, na, ra, lk, rs⟩ := r1
    obtain ⟨v, hv, rv⟩ := keyD_rep rs hd
    exact ⟨a, v, rfl, .inl ⟨_, .inr x, .of ra, rfl, hv.symm⟩, k _ _ _ e1 rv q1⟩
  · exact q1.elim)
end
end DL
set_option Elab.async false
set_option linter.all false
set_option maxRecDepth 100000
set_option maxHeartbeats 2000000
/-! tuple(xs) of a list, its object known -/
namespace DL
open PySem PySem.Spec L2
open PyProof.Rows hiding St
section
variable {X : Cx} {F : FP} {e : Expr} {es : List Expr} {pos : Pos} {Tas : TDA}
def rTupK (K : PySem.W.Frag) : List V → Hp → VK → Prop := fun vs H Q => ∃ p ys, vs = [.ref p] ∧ SqL K H p ys ∧ ∀ (l : Addr) (o : Obj), o.dict = none → H l = none → Q (.ref l) (upd H l (.frz o (.tup ys)))
theorem cr_tupK : CallR X (.type "tuple") (rTupK X.K) := by
  intro pins s σ H vs us Q I r h
  obtain ⟨a, ys, rfl, ra, k⟩ := h
  obtain ⟨u, rfl, rv⟩ := vals1 r
  cases (show u = Value.ref a from rv)
  obtain ⟨its, rv', ⟨o, n, ho, hc, _, hd⟩, ln⟩ := I.list ra
  have l2 : its.length = ys.length := rv'.length.symm
  refine PySem.call_tuple_list (items := its.toArray) ⟨o, ho, hc, n, hd⟩ (fun h' keep => ?_) (by rw [List.size_toArray, l2]; exact ln)
  have J := I.kept (t' := s.toks) keep
  have free := J.hok.fresh (Nat.le_refl h'.objs.size)
  generalize e : ({ cls := .type "tuple", data := .seq its.toArray } : Obj) = o2
  have at_ : (h'.push o2).get? h'.objs.size = some o2 := Heap.get?_push_size _ (by rw [← e]; rfl)
  have new : ObjOk X.prog X.w (upd H h'.objs.size (.frz o2 (.tup ys))) (h'.push o2) h'.objs.size (.frz o2 (.tup ys)) :=
    ⟨at_, ln, its, rv', ⟨o2, at_, by rw [← e], _, by rw [← e]⟩⟩
  have J2 := J.laid (t' := s.toks) (fun _ _ e => Heap.get?_push_of_some _ e) (Nat.le_refl _) new
  subst e
  exact ⟨.ref h'.objs.size, _, J2, rfl, k _ _ rfl free⟩
def gTupleK : GA := fun xs Q => match xs with
  | [.lst ds] => Q (.kt ds)
  | _ => False
theorem cd_tupK : CallD F (rTupK F.K) gTupleK := ⟨by
  intro N H vs ds Qd Q n r h k
  unfold gTupleK at h
  split at h
  · rename_i ds
    obtain ⟨v, w, rfl, h1, h2⟩ := r
    cases h2
    obtain ⟨a, xs, rfl, _, ra, rs⟩ := h1
    exact ⟨a, xs, rfl, .of ra, fun q o od hq => k _ _ (.kt ds) (n.lay hq) ⟨q, xs, o, rfl, n.fresh hq, upd_same, od, rs.ext (n.lay hq) n.z⟩ h⟩
  · exact h.elim⟩
theorem d_tupOfK {p : Pos} (hK : F.K = X.K) (hg : Gl X "tuple") (hm : X.mg "tuple" = none) (ha : PA X (e :: es) (tDA F Tas))
    (he : starEach (e :: es) X.env = (false, eval e X.env) :: starEach es X.env := by rfl) (hpl : (backTo pos (starEach es X.env)).any (·.1) = false := by rfl) : PE X (.Call (.Name "tuple" p) (e :: es) [] pos) (tD F (dCB gTupleK Tas)) := by
  have z := cd_tupK (F := F)
  rw [hK] at z
  exact d_callTy z cr_tupK hg hm (by decide +kernel) ha (by decide) (by decide) he hpl
end
end DL
set_option Elab.async false
set_option linter.all false
set_option maxRecDepth 100000
set_option maxHeartbeats 2000000
/-! comprehensions within comprehensions -/
namespace DL
open PySem PySem.Spec L2
open PyProof.Rows hiding St
theorem lookup_re {env : Env} {x : Str} : ∀ {l : List (Str × NameKind)} {k : NameKind}, List.lookup x l = some k → (k = .cell ∨ k = .free) →
    ∃ k', List.lookup x (l.map fun x => match x with | (n, k) => if (k == NameKind.free && env.scope.kind == ScopeKind.function && env.kindOf n == some NameKind.cell) = true then (n, NameKind.cell) else (n, k)) = some k' ∧ (k' = .cell ∨ k' = .free)
  | [], _, h, _ => by cases h
  | (n, k0) :: l, k, h, hk => by
    rw [List.lookup_cons] at h
    rw [List.map_cons]
    have e1 : ∀ c : Bool, (if c = true then (n, NameKind.cell) else (n, k0)) = (n, if c = true then NameKind.cell else k0) := by intro c; cases c <;> rfl
    dsimp only
    rw [e1, List.lookup_cons]
    by_cases e : (x == n) = true
    · rw [e] at h ⊢
      cases h
      refine ⟨_, rfl, ?_⟩
      split
      · exact .inl rfl
      · exact hk
    · rw [Bool.not_eq_true] at e
      rw [e] at h ⊢
      exact lookup_re h hk
theorem blkOk_in {N : List Str} {scO scI : Scope} {own : List (Str × Nat)} {cl : List (Str × Addr)} {C : Addr} {env : Env} (h : blkC N scO scI own = true) : BlkOk N (compEnvC scO cl C env).scope scI own := by
  have z := blkOk_by h
  refine ⟨z.kind, z.uniq, z.ix, fun y m f => ?_, z.own⟩
  have key : ∀ k, List.lookup y.fst scO.names = some k → (k = .cell ∨ k = .free) → ∃ k', List.lookup y.fst (relabel scO env).names = some k' ∧ (k' = .cell ∨ k' = .free) := fun k h hk => lookup_re h hk
  have fin : ∃ k', List.lookup y.fst (relabel scO env).names = some k' ∧ (k' = .cell ∨ k' = .free) := by
    rcases z.free y m f with e | e
    · exact key _ e (.inl rfl)
    · exact key _ e (.inr rfl)
  obtain ⟨k', e, r | r⟩ := fin
  · exact .inl (by rw [← r]; exact e)
  · exact .inr (by rw [← r]; exact e)
end DL
set_option Elab.async false
set_option linter.all false
set_option maxRecDepth 100000
/-! repr of what has dicts, or of what has ints of up to 12900 bits -/
namespace DL
open PySem PySem.Spec L2
open PyProof.Rows hiding St
section
variable {X : Cx} {F : FP} {e : Expr} {es : List Expr} {pos : Pos} {Ta : TDE} {Tas : TDA}
def gReprU : GA := fun xs Q => gReprR xs Q ∨ gReprB xs Q
def rReprU (K : PySem.W.Frag) : List V → Hp → VK → Prop := fun vs H Q => rReprR K vs H Q ∨ rReprB K vs H Q
theorem cr_reprU (m : mxB X.K = true) (c : smB X.K = true) (hg : X.A.guards = some []) (hu : X.A.units + 80 < cLine) : CallR X (.builtin "repr") (rReprU X.K) := by
  intro pins s σ H vs us Q I r h
  exact h.elim (fun h => cr_reprR c hg hu pins s σ H vs us Q I r h) (fun h => cr_reprB m hg hu pins s σ H vs us Q I r h)
theorem cd_reprU : CallD F (rReprU F.K) gReprU := ⟨by
  intro N H vs ds Qd Q n r h k
  exact h.elim (fun h => .inl (cd_reprR.1 N H vs ds Qd Q n r h k)) (fun h => .inr (cd_reprB.1 N H vs ds Qd Q n r h k))⟩
theorem d_reprU {p : Pos} (hK : F.K = X.K) (m : mxB X.K = true) (c : smB X.K = true) (hgd : X.A.guards = some []) (hu : X.A.units + 80 < cLine) (hg : Gl X "repr") (hm : X.mg "repr" = none) (ha : PA X (e :: es) (tDA F Tas))
    (he : starEach (e :: es) X.env = (false, eval e X.env) :: starEach es X.env := by rfl) (hpl : (backTo pos (starEach es X.env)).any (·.1) = false := by rfl) : PE X (.Call (.Name "repr" p) (e :: es) [] pos) (tD F (dCB gReprU Tas)) := by
  have z := cd_reprU (F := F)
  rw [hK] at z
  exact d_callB z (cr_reprU m c hgd hu) hg hm (by decide +kernel) ha (by decide) (by decide) he hpl
end
end DL
set_option Elab.async false
set_option linter.all false
set_option maxRecDepth 100000
set_option maxHeartbeats 4000000
namespace K08
open PySem PySem.Spec L2 DL
open PyProof.Rows hiding St
def top (i : Nat) : Stmt := PySem.Challenge.pw_nevertwice_k08_whole_powers_and_floors_g.main.body.getD i (.Pass ⟨0, 0, 0, 0⟩)
abbrev s_is_plain_integer : Stmt := top 2
abbrev s_is_tuple_of : Stmt := top 3
abbrev s_are_plain_integers : Stmt := top 4
abbrev s_is_golden : Stmt := top 24
abbrev s_need_golden : Stmt := top 25
abbrev s__lowest : Stmt := top 26
abbrev s_reduced : Stmt := top 27
abbrev s_minus : Stmt := top 28
abbrev s_times : Stmt := top 29
abbrev s_quotient : Stmt := top 30
abbrev s_sign_of_parts : Stmt := top 31
abbrev s_sign : Stmt := top 32
abbrev s_integer_below : Stmt := top 33
abbrev s_integer_above : Stmt := top 34
abbrev s_is_whole : Stmt := top 35
abbrev s_conjugate : Stmt := top 36
abbrev s_power : Stmt := top 37
abbrev s_five_by_rule : Stmt := top 42
abbrev s_led_round : Stmt := top 43
abbrev s_with_part : Stmt := top 44
abbrev s_stepped : Stmt := top 45
abbrev s_keys_by : Stmt := top 54
abbrev s__whole_directions : Stmt := top 55
abbrev s__sides_of : Stmt := top 56
abbrev s_Floor_init : Stmt := methOf "__init__" (top 52)
abbrev s_Floor_eq : Stmt := methOf "__eq__" (top 52)
abbrev s_whole_keys : Stmt := top 57
abbrev s_gathered_times : Stmt := top 62
abbrev s_gathered : Stmt := top 60
abbrev s_cut_floor : Stmt := top 61
abbrev s__law_deck : Stmt := top 64
abbrev s__law_draw : Stmt := top 65
abbrev s__law_pick : Stmt := top 66
abbrev s__law_integer : Stmt := top 67
abbrev s__law_common : Stmt := top 68
abbrev s__law_least : Stmt := top 69
abbrev s__law_keys : Stmt := top 70
abbrev s__law_sides : Stmt := top 71
abbrev s__law_tiny : Stmt := top 72
abbrev s__law_world : Stmt := top 73
abbrev s__law_same : Stmt := top 74
abbrev s__law_power : Stmt := top 75
abbrev s__law_times : Stmt := top 76
abbrev s__law_refused : Stmt := top 77
abbrev s__law_odd : Stmt := top 78
abbrev s__law_is_integer : Stmt := top 79
abbrev s__law_exponent : Stmt := top 80
abbrev s__law_are_powers_right : Stmt := top 81
abbrev s__law_are_gathered_right : Stmt := top 82
abbrev s_law : Stmt := top 83
abbrev FnP (K : PySem.W.Frag) (x : Str) (st : Stmt) (f : Addr) (fd : FuncData) : Prop := FunD K x x (defArgs st) (defBody st) (defScope st) [] [] f fd
abbrev FnPD (K : PySem.W.Frag) (x : Str) (st : Stmt) (dvs : List V) (f : Addr) (fd : FuncData) : Prop := FunD K x x (defArgs st) (defBody st) (defScope st) dvs [] f fd
def TN : List Str := []
abbrev i_BadCount : Stmt := initOf (top 12)
abbrev i_BadNumber : Stmt := initOf (top 7)
abbrev i_BadPower : Stmt := initOf (top 9)
abbrev i_BadSide : Stmt := initOf (top 11)
end K08
set_option Elab.async false
set_option linter.all false
set_option maxRecDepth 100000
set_option maxHeartbeats 4000000
namespace K08
open PySem PySem.Spec L2 DL
open PyProof.Rows hiding St
def dd_is_plain_integer : He.DefD := ⟨("is_plain_integer", none), "is_plain_integer", "is_plain_integer", defArgs s_is_plain_integer, defBody s_is_plain_integer, defScope s_is_plain_integer, [], []⟩
def dd_is_tuple_of : He.DefD := ⟨("is_tuple_of", none), "is_tuple_of", "is_tuple_of", defArgs s_is_tuple_of, defBody s_is_tuple_of, defScope s_is_tuple_of, [], []⟩
def dd_are_plain_integers : He.DefD := ⟨("are_plain_integers", none), "are_plain_integers", "are_plain_integers", defArgs s_are_plain_integers, defBody s_are_plain_integers, defScope s_are_plain_integers, [], []⟩
def dd_is_golden : He.DefD := ⟨("is_golden", none), "is_golden", "is_golden", defArgs s_is_golden, defBody s_is_golden, defScope s_is_golden, [], []⟩
def dd_need_golden : He.DefD := ⟨("need_golden", none), "need_golden", "need_golden", defArgs s_need_golden, defBody s_need_golden, defScope s_need_golden, [], []⟩
def dd__lowest : He.DefD := ⟨("_lowest", none), "_lowest", "_lowest", defArgs s__lowest, defBody s__lowest, defScope s__lowest, [], []⟩
def dd_reduced : He.DefD := ⟨("reduced", none), "reduced", "reduced", defArgs s_reduced, defBody s_reduced, defScope s_reduced, [], []⟩
def dd_minus : He.DefD := ⟨("minus", none), "minus", "minus", defArgs s_minus, defBody s_minus, defScope s_minus, [], []⟩
def dd_times : He.DefD := ⟨("times", none), "times", "times", defArgs s_times, defBody s_times, defScope s_times, [], []⟩
def dd_quotient : He.DefD := ⟨("quotient", none), "quotient", "quotient", defArgs s_quotient, defBody s_quotient, defScope s_quotient, [], []⟩
def dd_sign_of_parts : He.DefD := ⟨("sign_of_parts", none), "sign_of_parts", "sign_of_parts", defArgs s_sign_of_parts, defBody s_sign_of_parts, defScope s_sign_of_parts, [], []⟩
def dd_sign : He.DefD := ⟨("sign", none), "sign", "sign", defArgs s_sign, defBody s_sign, defScope s_sign, [], []⟩
def dd_integer_below : He.DefD := ⟨("integer_below", none), "integer_below", "integer_below", defArgs s_integer_below, defBody s_integer_below, defScope s_integer_below, [], []⟩
def dd_integer_above : He.DefD := ⟨("integer_above", none), "integer_above", "integer_above", defArgs s_integer_above, defBody s_integer_above, defScope s_integer_above, [], []⟩
def dd_is_whole : He.DefD := ⟨("is_whole", none), "is_whole", "is_whole", defArgs s_is_whole, defBody s_is_whole, defScope s_is_whole, [], []⟩
def dd_conjugate : He.DefD := ⟨("conjugate", none), "conjugate", "conjugate", defArgs s_conjugate, defBody s_conjugate, defScope s_conjugate, [], []⟩
def dd_power : He.DefD := ⟨("power", none), "power", "power", defArgs s_power, defBody s_power, defScope s_power, [], []⟩
def dd_five_by_rule : He.DefD := ⟨("five_by_rule", none), "five_by_rule", "five_by_rule", defArgs s_five_by_rule, defBody s_five_by_rule, defScope s_five_by_rule, [], []⟩
def dd_led_round : He.DefD := ⟨("led_round", none), "led_round", "led_round", defArgs s_led_round, defBody s_led_round, defScope s_led_round, [], []⟩
def dd_with_part : He.DefD := ⟨("with_part", none), "with_part", "with_part", defArgs s_with_part, defBody s_with_part, defScope s_with_part, [], []⟩
def dd_stepped : He.DefD := ⟨("stepped", none), "stepped", "stepped", defArgs s_stepped, defBody s_stepped, defScope s_stepped, [], []⟩
def dd_keys_by : He.DefD := ⟨("keys_by", none), "keys_by", "keys_by", defArgs s_keys_by, defBody s_keys_by, defScope s_keys_by, [], []⟩
def dd__whole_directions : He.DefD := ⟨("_whole_directions", none), "_whole_directions", "_whole_directions", defArgs s__whole_directions, defBody s__whole_directions, defScope s__whole_directions, [], []⟩
def dd__sides_of : He.DefD := ⟨("_sides_of", none), "_sides_of", "_sides_of", defArgs s__sides_of, defBody s__sides_of, defScope s__sides_of, [], []⟩
def dd_Floor_init : He.DefD := ⟨("Floor", some "__init__"), "__init__", "Floor.__init__", defArgs s_Floor_init, defBody s_Floor_init, defScope s_Floor_init, [.adr (He.dflAt ("Floor", some "__init__") 0)], []⟩
def dd_Floor_eq : He.DefD := ⟨("Floor", some "__eq__"), "__eq__", "Floor.__eq__", defArgs s_Floor_eq, defBody s_Floor_eq, defScope s_Floor_eq, [], []⟩
def dd_whole_keys : He.DefD := ⟨("whole_keys", none), "whole_keys", "whole_keys", defArgs s_whole_keys, defBody s_whole_keys, defScope s_whole_keys, [], []⟩
def dd_gathered_times : He.DefD := ⟨("gathered_times", none), "gathered_times", "gathered_times", defArgs s_gathered_times, defBody s_gathered_times, defScope s_gathered_times, [], []⟩
def dd_gathered : He.DefD := ⟨("gathered", none), "gathered", "gathered", defArgs s_gathered, defBody s_gathered, defScope s_gathered, [], []⟩
def dd_cut_floor : He.DefD := ⟨("cut_floor", none), "cut_floor", "cut_floor", defArgs s_cut_floor, defBody s_cut_floor, defScope s_cut_floor, [], []⟩
def dd__law_deck : He.DefD := ⟨("_law_deck", none), "_law_deck", "_law_deck", defArgs s__law_deck, defBody s__law_deck, defScope s__law_deck, [], []⟩
def dd__law_draw : He.DefD := ⟨("_law_draw", none), "_law_draw", "_law_draw", defArgs s__law_draw, defBody s__law_draw, defScope s__law_draw, [], []⟩
def dd__law_pick : He.DefD := ⟨("_law_pick", none), "_law_pick", "_law_pick", defArgs s__law_pick, defBody s__law_pick, defScope s__law_pick, [], []⟩
def dd__law_integer : He.DefD := ⟨("_law_integer", none), "_law_integer", "_law_integer", defArgs s__law_integer, defBody s__law_integer, defScope s__law_integer, [], []⟩
def dd__law_common : He.DefD := ⟨("_law_common", none), "_law_common", "_law_common", defArgs s__law_common, defBody s__law_common, defScope s__law_common, [], []⟩
def dd__law_least : He.DefD := ⟨("_law_least", none), "_law_least", "_law_least", defArgs s__law_least, defBody s__law_least, defScope s__law_least, [], []⟩
def dd__law_keys : He.DefD := ⟨("_law_keys", none), "_law_keys", "_law_keys", defArgs s__law_keys, defBody s__law_keys, defScope s__law_keys, [], []⟩
def dd__law_sides : He.DefD := ⟨("_law_sides", none), "_law_sides", "_law_sides", defArgs s__law_sides, defBody s__law_sides, defScope s__law_sides, [], []⟩
def dd__law_tiny : He.DefD := ⟨("_law_tiny", none), "_law_tiny", "_law_tiny", defArgs s__law_tiny, defBody s__law_tiny, defScope s__law_tiny, [], []⟩
def dd__law_world : He.DefD := ⟨("_law_world", none), "_law_world", "_law_world", defArgs s__law_world, defBody s__law_world, defScope s__law_world, [], []⟩
def dd__law_same : He.DefD := ⟨("_law_same", none), "_law_same", "_law_same", defArgs s__law_same, defBody s__law_same, defScope s__law_same, [], []⟩
def dd__law_power : He.DefD := ⟨("_law_power", none), "_law_power", "_law_power", defArgs s__law_power, defBody s__law_power, defScope s__law_power, [], []⟩
def dd__law_times : He.DefD := ⟨("_law_times", none), "_law_times", "_law_times", defArgs s__law_times, defBody s__law_times, defScope s__law_times, [], []⟩
def dd__law_refused : He.DefD := ⟨("_law_refused", none), "_law_refused", "_law_refused", defArgs s__law_refused, defBody s__law_refused, defScope s__law_refused, [], []⟩
def dd__law_odd : He.DefD := ⟨("_law_odd", none), "_law_odd", "_law_odd", defArgs s__law_odd, defBody s__law_odd, defScope s__law_odd, [], []⟩
def dd__law_is_integer : He.DefD := ⟨("_law_is_integer", none), "_law_is_integer", "_law_is_integer", defArgs s__law_is_integer, defBody s__law_is_integer, defScope s__law_is_integer, [], []⟩
def dd__law_exponent : He.DefD := ⟨("_law_exponent", none), "_law_exponent", "_law_exponent", defArgs s__law_exponent, defBody s__law_exponent, defScope s__law_exponent, [], []⟩
def dd__law_are_powers_right : He.DefD := ⟨("_law_are_powers_right", none), "_law_are_powers_right", "_law_are_powers_right", defArgs s__law_are_powers_right, defBody s__law_are_powers_right, defScope s__law_are_powers_right, [], []⟩
def dd__law_are_gathered_right : He.DefD := ⟨("_law_are_gathered_right", none), "_law_are_gathered_right", "_law_are_gathered_right", defArgs s__law_are_gathered_right, defBody s__law_are_gathered_right, defScope s__law_are_gathered_right, [], []⟩
def dd_law : He.DefD := ⟨("law", none), "law", "law", defArgs s_law, defBody s_law, defScope s_law, [], []⟩
def di_BadCount : He.DefD := ⟨("BadCount", some "__init__"), "__init__", "BadCount.__init__", defArgs i_BadCount, defBody i_BadCount, defScope i_BadCount, [], []⟩
def di_BadNumber : He.DefD := ⟨("BadNumber", some "__init__"), "__init__", "BadNumber.__init__", defArgs i_BadNumber, defBody i_BadNumber, defScope i_BadNumber, [], []⟩
def di_BadPower : He.DefD := ⟨("BadPower", some "__init__"), "__init__", "BadPower.__init__", defArgs i_BadPower, defBody i_BadPower, defScope i_BadPower, [], []⟩
def di_BadSide : He.DefD := ⟨("BadSide", some "__init__"), "__init__", "BadSide.__init__", defArgs i_BadSide, defBody i_BadSide, defScope i_BadSide, [], []⟩
def fn : List He.DefD := [dd_is_plain_integer, dd_is_tuple_of, dd_are_plain_integers, dd_is_golden, dd_need_golden, dd__lowest, dd_reduced, dd_minus, dd_times, dd_quotient, dd_sign_of_parts, dd_sign, dd_integer_below, dd_integer_above, dd_is_whole, dd_conjugate, dd_power, dd_five_by_rule, dd_led_round, dd_with_part, dd_stepped, dd_keys_by, dd__whole_directions, dd__sides_of, dd_Floor_init, dd_Floor_eq, dd_whole_keys, dd_gathered_times, dd_gathered, dd_cut_floor, dd__law_deck, dd__law_draw, dd__law_pick, dd__law_integer, dd__law_common, dd__law_least, dd__law_keys, dd__law_sides, dd__law_tiny, dd__law_world, dd__law_same, dd__law_power, dd__law_times, dd__law_refused, dd__law_odd, dd__law_is_integer, dd__law_exponent, dd__law_are_powers_right, dd__law_are_gathered_right, dd_law, di_BadCount, di_BadNumber, di_BadPower, di_BadSide]
def faL : List He.Fa := [.glo "is_plain_integer", .glo "is_tuple_of", .glo "are_plain_integers", .glo "is_golden", .glo "need_golden", .glo "_lowest", .glo "reduced", .glo "minus", .glo "times", .glo "quotient", .glo "sign_of_parts", .glo "sign", .glo "integer_below", .glo "integer_above", .glo "is_whole", .glo "conjugate", .glo "power", .glo "five_by_rule", .glo "led_round", .glo "with_part", .glo "stepped", .glo "keys_by", .glo "_whole_directions", .glo "_sides_of", .glo "whole_keys", .glo "gathered_times", .glo "gathered", .glo "cut_floor", .glo "_law_deck", .glo "_law_draw", .glo "_law_pick", .glo "_law_integer", .glo "_law_common", .glo "_law_least", .glo "_law_keys", .glo "_law_sides", .glo "_law_tiny", .glo "_law_world", .glo "_law_same", .glo "_law_power", .glo "_law_times", .glo "_law_refused", .glo "_law_odd", .glo "_law_is_integer", .glo "_law_exponent", .glo "_law_are_powers_right", .glo "_law_are_gathered_right", .glo "law", .free "abs", .free "all", .free "bool", .free "int", .free "isinstance", .free "len", .free "list", .free "max", .free "range", .free "repr", .free "sorted", .free "str", .free "tuple"]
def ex (K : PySem.W.Frag) : Bool := bltB K "gcd" "math.gcd" && bltB K "isqrt" "math.isqrt" && tupIB K "FIRST_SIDE" [1, -1, 1, 1, -1] && gintB K "GREATEST_POWER" 2000 && tupIB K "KEY_RULE" [0, -1, 1] && gintB K "MOST_TIMES" 400 && tupIB K "REGULAR_SIDE" [0, 0, 0, 0, 0] && tupIB K "ZERO" [0, 0, 1] && mxB K && smB K && exfB K "BadCount" "thing" && exisB K "BadCount" && exfB K "BadNumber" "thing" && exisB K "BadNumber" && exfB K "BadPower" "thing" && exisB K "BadPower" && exfB K "BadSide" "thing" && exisB K "BadSide" && refB K "BadCount" && refB K "BadNumber" && refB K "BadPower" && refB K "Floor" && refB K "FloorError" && exmB K "BadCount" "BadPower" false && exmB K "BadNumber" "BadPower" false && exmB K "BadPower" "BadPower" true && exmB K "BadSide" "BadPower" false && exmB K "DividedByZero" "BadPower" false && exmB K "BadCount" "FloorError" true && exmB K "BadNumber" "FloorError" true && exmB K "BadPower" "FloorError" true && exmB K "BadSide" "FloorError" true && exmB K "DividedByZero" "FloorError" true && kitB K "BadCount" "BadCount" true && kitB K "BadNumber" "BadCount" false && kitB K "BadPower" "BadCount" false && kitB K "BadSide" "BadCount" false && kitB K "DividedByZero" "BadCount" false && kitB K "BadCount" "BadNumber" false && kitB K "BadNumber" "BadNumber" true && kitB K "BadPower" "BadNumber" false && kitB K "BadSide" "BadNumber" false && kitB K "DividedByZero" "BadNumber" false && kitB K "BadCount" "Floor" false && kitB K "BadNumber" "Floor" false && kitB K "BadPower" "Floor" false && kitB K "BadSide" "Floor" false && kitB K "DividedByZero" "Floor" false && kitB K "BadCount" "FloorError" true && kitB K "BadNumber" "FloorError" true && kitB K "BadPower" "FloorError" true && kitB K "BadSide" "FloorError" true && kitB K "DividedByZero" "FloorError" true && tabNB K TN && clsB K "DividedByZero" && exisB K "DividedByZero" && insB K "Floor" ["all_keys", "side"] && mkB K "Floor" && eqB K "Floor" && dflIB K (He.dflAt ("Floor", some "__init__") 0 K) [0, 0, 0, 0, 0]
abbrev R : PySem.W.OpenRow := PySem.W.OpenLaw.row PySem.Challenge.rw_nevertwice_k08_whole_powers_and_floors_g
abbrev hk : PySem.W.Hook := hookF 5 faL fn TN ex
def ob (s : PySem.W.SharedT) : He.AlD × Bool := obsF 5 faL fn TN ex (HandSHeadRun.getT s)
theorem ob_eq (s : PySem.W.SharedT) : ob s = hk.obs s.abs := obsF_eq (HandSHeadRun.getT_eq s)
def nms0 : List Str := ["gcd", "isqrt", "is_plain_integer", "is_tuple_of", "are_plain_integers", "FloorError", "BadNumber", "DividedByZero", "BadPower", "BadText", "BadSide", "BadCount", "BLOCK_DIGITS", "DIGITS", "_block", "integer_text", "is_digits", "integer_of_digits", "integer_written", "ZERO", "GREATEST_POWER", "is_golden", "need_golden", "_lowest", "reduced", "minus", "times", "quotient", "sign_of_parts", "sign"]
def nms1 : List Str := ["integer_below", "integer_above", "is_whole", "conjugate", "power", "number_text", "read_number", "_number_written", "five_by_rule", "led_round", "with_part", "stepped", "REGULAR_SIDE", "FIRST_SIDE", "KEY_RULE", "SIDE_MARKS", "MARKED_PARTS", "Floor", "_side_written", "keys_by", "_whole_directions", "_sides_of", "whole_keys", "MOST_TIMES", "gathered", "cut_floor", "gathered_times", "_law_deck", "_law_draw", "_law_pick"]
def nms2 : List Str := ["_law_integer", "_law_common", "_law_least", "_law_keys", "_law_sides", "_law_tiny", "_law_world", "_law_same", "_law_power", "_law_times", "_law_refused", "_law_odd", "_law_is_integer", "_law_exponent", "_law_are_powers_right", "_law_are_gathered_right"]
def nms : List Str := nms0 ++ nms1 ++ nms2
theorem run_of {r : PySem.W.OpenRow} {q : Program} {H : PySem.W.Hook} {ob : PySem.W.SharedT → H.α} {M : Nat} {loose : List Str} {w : World}
    (ha : Option.map (fun x => HandSHeadRun.looksF r.prog x.fst.heap x.snd.abs) (HandSHeadRun.wholeF (fun p => HandSHeadRun.stepQ (HandSHeadRun.denQ HandSHeadRun.tabQ) p w) HandSHeadRun.fenceQ M r.prog) = some true)
    (hb : Option.map (fun x => HandSHeadRun.seenQ q loose (PySem.importedModules r.prog.main.body) (fun s => PySem.W.xlAt q [] s && PySem.W.recOk r.records s) x.snd.abs) (HandSHeadRun.wholeF (fun p => HandSHeadRun.stepQ (HandSHeadRun.denQ HandSHeadRun.tabQ) p w) HandSHeadRun.fenceQ M r.prog) = some (PySem.W.openGood q loose))
    (hc : Option.map (fun x => ob x.snd) (HandSHeadRun.wholeF (fun p => HandSHeadRun.stepQ (HandSHeadRun.denQ HandSHeadRun.tabQ) p w) HandSHeadRun.fenceQ M r.prog) = some (H.val w)) : HandSHeadRun.RunEqI r q H ob M loose w := by
  unfold HandSHeadRun.RunEqI
  generalize HandSHeadRun.wholeF (fun p => HandSHeadRun.stepQ (HandSHeadRun.denQ HandSHeadRun.tabQ) p w) HandSHeadRun.fenceQ M r.prog = e at *
  cases e with
  | none => cases ha
  | some x =>
    have ha := Option.some.inj ha
    have hb := Option.some.inj hb
    have hc := Option.some.inj hc
    show some _ = some _
    dsimp only at ha hb hc ⊢
    rw [ha, hb, hc]
theorem run_fa (w : World) : Option.map (fun x => HandSHeadRun.looksF R.prog x.fst.heap x.snd.abs) (HandSHeadRun.wholeF (fun p => HandSHeadRun.stepQ (HandSHeadRun.denQ HandSHeadRun.tabQ) p (w.withFollow "special-get-raises" false)) HandSHeadRun.fenceQ 6040 R.prog) = some true := by
  kernel_rfl
theorem run_fb (w : World) : Option.map (fun x => HandSHeadRun.seenQ (PySem.W.view R.prog [0, 83]) nms (PySem.importedModules R.prog.main.body) (fun s => PySem.W.xlAt (PySem.W.view R.prog [0, 83]) [] s && PySem.W.recOk R.records s) x.snd.abs) (HandSHeadRun.wholeF (fun p => HandSHeadRun.stepQ (HandSHeadRun.denQ HandSHeadRun.tabQ) p (w.withFollow "special-get-raises" false)) HandSHeadRun.fenceQ 6040 R.prog) = some (PySem.W.openGood (PySem.W.view R.prog [0, 83]) nms) := by
  kernel_rfl
theorem run_fc (w : World) : Option.map (fun x => ob x.snd) (HandSHeadRun.wholeF (fun p => HandSHeadRun.stepQ (HandSHeadRun.denQ HandSHeadRun.tabQ) p (w.withFollow "special-get-raises" false)) HandSHeadRun.fenceQ 6040 R.prog) = some (hk.val (w.withFollow "special-get-raises" false)) := by
  kernel_rfl
theorem run_f (w : World) : HandSHeadRun.RunEqI R (PySem.W.view R.prog [0, 83]) hk ob 6040 nms (w.withFollow "special-get-raises" false) := run_of (run_fa w) (run_fb w) (run_fc w)
theorem run_ta (w : World) : Option.map (fun x => HandSHeadRun.looksF R.prog x.fst.heap x.snd.abs) (HandSHeadRun.wholeF (fun p => HandSHeadRun.stepQ (HandSHeadRun.denQ HandSHeadRun.tabQ) p (w.withFollow "special-get-raises" true)) HandSHeadRun.fenceQ 6040 R.prog) = some true := by
  kernel_rfl
theorem run_tb (w : World) : Option.map (fun x => HandSHeadRun.seenQ (PySem.W.view R.prog [0, 83]) nms (PySem.importedModules R.prog.main.body) (fun s => PySem.W.xlAt (PySem.W.view R.prog [0, 83]) [] s && PySem.W.recOk R.records s) x.snd.abs) (HandSHeadRun.wholeF (fun p => HandSHeadRun.stepQ (HandSHeadRun.denQ HandSHeadRun.tabQ) p (w.withFollow "special-get-raises" true)) HandSHeadRun.fenceQ 6040 R.prog) = some (PySem.W.openGood (PySem.W.view R.prog [0, 83]) nms) := by
  kernel_rfl
theorem run_tc (w : World) : Option.map (fun x => ob x.snd) (HandSHeadRun.wholeF (fun p => HandSHeadRun.stepQ (HandSHeadRun.denQ HandSHeadRun.tabQ) p (w.withFollow "special-get-raises" true)) HandSHeadRun.fenceQ 6040 R.prog) = some (hk.val (w.withFollow "special-get-raises" true)) := by
  kernel_rfl
theorem run_t (w : World) : HandSHeadRun.RunEqI R (PySem.W.view R.prog [0, 83]) hk ob 6040 nms (w.withFollow "special-get-raises" true) := run_of (run_ta w) (run_tb w) (run_tc w)
theorem run (w : World) : HandSHeadRun.RunEqI R (PySem.W.view R.prog [0, 83]) hk ob 6040 nms w := PySem.W.byRow2 "special-get-raises" (P := fun w => HandSHeadRun.RunEqI R (PySem.W.view R.prog [0, 83]) hk ob 6040 nms w) run_f run_t w
end K08
set_option Elab.async false
set_option linter.all false
set_option maxRecDepth 100000
set_option maxHeartbeats 4000000
namespace K08
open PySem PySem.Spec L2 DL
open PyProof.Rows hiding St
structure Tx (K : PySem.W.Frag) (mg : Str → Option Value) where
  a_is_plain_integer : Addr
  d_is_plain_integer : FuncData
  F_is_plain_integer : FnP K "is_plain_integer" s_is_plain_integer a_is_plain_integer d_is_plain_integer
  m_is_plain_integer : mg "is_plain_integer" = some (.ref a_is_plain_integer)
  a_is_tuple_of : Addr
  d_is_tuple_of : FuncData
  F_is_tuple_of : FnP K "is_tuple_of" s_is_tuple_of a_is_tuple_of d_is_tuple_of
  m_is_tuple_of : mg "is_tuple_of" = some (.ref a_is_tuple_of)
  a_are_plain_integers : Addr
  d_are_plain_integers : FuncData
  F_are_plain_integers : FnP K "are_plain_integers" s_are_plain_integers a_are_plain_integers d_are_plain_integers
  m_are_plain_integers : mg "are_plain_integers" = some (.ref a_are_plain_integers)
  a_is_golden : Addr
  d_is_golden : FuncData
  F_is_golden : FnP K "is_golden" s_is_golden a_is_golden d_is_golden
  m_is_golden : mg "is_golden" = some (.ref a_is_golden)
  a_need_golden : Addr
  d_need_golden : FuncData
  F_need_golden : FnP K "need_golden" s_need_golden a_need_golden d_need_golden
  m_need_golden : mg "need_golden" = some (.ref a_need_golden)
  a__lowest : Addr
  d__lowest : FuncData
  F__lowest : FnP K "_lowest" s__lowest a__lowest d__lowest
  m__lowest : mg "_lowest" = some (.ref a__lowest)
  a_reduced : Addr
  d_reduced : FuncData
  F_reduced : FnP K "reduced" s_reduced a_reduced d_reduced
  m_reduced : mg "reduced" = some (.ref a_reduced)
  a_minus : Addr
  d_minus : FuncData
  F_minus : FnP K "minus" s_minus a_minus d_minus
  m_minus : mg "minus" = some (.ref a_minus)
  a_times : Addr
  d_times : FuncData
  F_times : FnP K "times" s_times a_times d_times
  m_times : mg "times" = some (.ref a_times)
  a_quotient : Addr
  d_quotient : FuncData
  F_quotient : FnP K "quotient" s_quotient a_quotient d_quotient
  m_quotient : mg "quotient" = some (.ref a_quotient)
  a_sign_of_parts : Addr
  d_sign_of_parts : FuncData
  F_sign_of_parts : FnP K "sign_of_parts" s_sign_of_parts a_sign_of_parts d_sign_of_parts
  m_sign_of_parts : mg "sign_of_parts" = some (.ref a_sign_of_parts)
  a_sign : Addr
  d_sign : FuncData
  F_sign : FnP K "sign" s_sign a_sign d_sign
  m_sign : mg "sign" = some (.ref a_sign)
  a_integer_below : Addr
  d_integer_below : FuncData
  F_integer_below : FnP K "integer_below" s_integer_below a_integer_below d_integer_below
  m_integer_below : mg "integer_below" = some (.ref a_integer_below)
  a_integer_above : Addr
  d_integer_above : FuncData
  F_integer_above : FnP K "integer_above" s_integer_above a_integer_above d_integer_above
  m_integer_above : mg "integer_above" = some (.ref a_integer_above)
  a_is_whole : Addr
  d_is_whole : FuncData
  F_is_whole : FnP K "is_whole" s_is_whole a_is_whole d_is_whole
  m_is_whole : mg "is_whole" = some (.ref a_is_whole)
  a_conjugate : Addr
  d_conjugate : FuncData
  F_conjugate : FnP K "conjugate" s_conjugate a_conjugate d_conjugate
  m_conjugate : mg "conjugate" = some (.ref a_conjugate)
  a_power : Addr
  d_power : FuncData
  F_power : FnP K "power" s_power a_power d_power
  m_power : mg "power" = some (.ref a_power)
  a_five_by_rule : Addr
  d_five_by_rule : FuncData
  F_five_by_rule : FnP K "five_by_rule" s_five_by_rule a_five_by_rule d_five_by_rule
  m_five_by_rule : mg "five_by_rule" = some (.ref a_five_by_rule)
  a_led_round : Addr
  d_led_round : FuncData
  F_led_round : FnP K "led_round" s_led_round a_led_round d_led_round
  m_led_round : mg "led_round" = some (.ref a_led_round)
  a_with_part : Addr
  d_with_part : FuncData
  F_with_part : FnP K "with_part" s_with_part a_with_part d_with_part
  m_with_part : mg "with_part" = some (.ref a_with_part)
  a_stepped : Addr
  d_stepped : FuncData
  F_stepped : FnP K "stepped" s_stepped a_stepped d_stepped
  m_stepped : mg "stepped" = some (.ref a_stepped)
  a_keys_by : Addr
  d_keys_by : FuncData
  F_keys_by : FnP K "keys_by" s_keys_by a_keys_by d_keys_by
  m_keys_by : mg "keys_by" = some (.ref a_keys_by)
  a__whole_directions : Addr
  d__whole_directions : FuncData
  F__whole_directions : FnP K "_whole_directions" s__whole_directions a__whole_directions d__whole_directions
  m__whole_directions : mg "_whole_directions" = some (.ref a__whole_directions)
  a__sides_of : Addr
  d__sides_of : FuncData
  F__sides_of : FnP K "_sides_of" s__sides_of a__sides_of d__sides_of
  m__sides_of : mg "_sides_of" = some (.ref a__sides_of)
  v_Floor_init : Addr
  V_Floor_init : SqT K NK v_Floor_init (List.map V.int [0, 0, 0, 0, 0])
  a_Floor_init : Addr
  d_Floor_init : FuncData
  F_Floor_init : FunD K "__init__" "Floor.__init__" (defArgs s_Floor_init) (defBody s_Floor_init) (defScope s_Floor_init) [.ref v_Floor_init] [] a_Floor_init d_Floor_init
  a_Floor_eq : Addr
  d_Floor_eq : FuncData
  F_Floor_eq : FunD K "__eq__" "Floor.__eq__" (defArgs s_Floor_eq) (defBody s_Floor_eq) (defScope s_Floor_eq) [] [] a_Floor_eq d_Floor_eq
  a_whole_keys : Addr
  d_whole_keys : FuncData
  F_whole_keys : FnP K "whole_keys" s_whole_keys a_whole_keys d_whole_keys
  m_whole_keys : mg "whole_keys" = some (.ref a_whole_keys)
  a_gathered_times : Addr
  d_gathered_times : FuncData
  F_gathered_times : FnP K "gathered_times" s_gathered_times a_gathered_times d_gathered_times
  m_gathered_times : mg "gathered_times" = some (.ref a_gathered_times)
  a_gathered : Addr
  d_gathered : FuncData
  F_gathered : FnP K "gathered" s_gathered a_gathered d_gathered
  m_gathered : mg "gathered" = some (.ref a_gathered)
  a_cut_floor : Addr
  d_cut_floor : FuncData
  F_cut_floor : FnP K "cut_floor" s_cut_floor a_cut_floor d_cut_floor
  m_cut_floor : mg "cut_floor" = some (.ref a_cut_floor)
  a__law_deck : Addr
  d__law_deck : FuncData
  F__law_deck : FnP K "_law_deck" s__law_deck a__law_deck d__law_deck
  m__law_deck : mg "_law_deck" = some (.ref a__law_deck)
  a__law_draw : Addr
  d__law_draw : FuncData
  F__law_draw : FnP K "_law_draw" s__law_draw a__law_draw d__law_draw
  m__law_draw : mg "_law_draw" = some (.ref a__law_draw)
  a__law_pick : Addr
  d__law_pick : FuncData
  F__law_pick : FnP K "_law_pick" s__law_pick a__law_pick d__law_pick
  m__law_pick : mg "_law_pick" = some (.ref a__law_pick)
  a__law_integer : Addr
  d__law_integer : FuncData
  F__law_integer : FnP K "_law_integer" s__law_integer a__law_integer d__law_integer
  m__law_integer : mg "_law_integer" = some (.ref a__law_integer)
  a__law_common : Addr
  d__law_common : FuncData
  F__law_common : FnP K "_law_common" s__law_common a__law_common d__law_common
  m__law_common : mg "_law_common" = some (.ref a__law_common)
  a__law_least : Addr
  d__law_least : FuncData
  F__law_least : FnP K "_law_least" s__law_least a__law_least d__law_least
  m__law_least : mg "_law_least" = some (.ref a__law_least)
  a__law_keys : Addr
  d__law_keys : FuncData
  F__law_keys : FnP K "_law_keys" s__law_keys a__law_keys d__law_keys
  m__law_keys : mg "_law_keys" = some (.ref a__law_keys)
  a__law_sides : Addr
  d__law_sides : FuncData
  F__law_sides : FnP K "_law_sides" s__law_sides a__law_sides d__law_sides
  m__law_sides : mg "_law_sides" = some (.ref a__law_sides)
  a__law_tiny : Addr
  d__law_tiny : FuncData
  F__law_tiny : FnP K "_law_tiny" s__law_tiny a__law_tiny d__law_tiny
  m__law_tiny : mg "_law_tiny" = some (.ref a__law_tiny)
  a__law_world : Addr
  d__law_world : FuncData
  F__law_world : FnP K "_law_world" s__law_world a__law_world d__law_world
  m__law_world : mg "_law_world" = some (.ref a__law_world)
  a__law_same : Addr
  d__law_same : FuncData
  F__law_same : FnP K "_law_same" s__law_same a__law_same d__law_same
  m__law_same : mg "_law_same" = some (.ref a__law_same)
  a__law_power : Addr
  d__law_power : FuncData
  F__law_power : FnP K "_law_power" s__law_power a__law_power d__law_power
  m__law_power : mg "_law_power" = some (.ref a__law_power)
  a__law_times : Addr
  d__law_times : FuncData
  F__law_times : FnP K "_law_times" s__law_times a__law_times d__law_times
  m__law_times : mg "_law_times" = some (.ref a__law_times)
  a__law_refused : Addr
  d__law_refused : FuncData
  F__law_refused : FnP K "_law_refused" s__law_refused a__law_refused d__law_refused
  m__law_refused : mg "_law_refused" = some (.ref a__law_refused)
  a__law_odd : Addr
  d__law_odd : FuncData
  F__law_odd : FnP K "_law_odd" s__law_odd a__law_odd d__law_odd
  m__law_odd : mg "_law_odd" = some (.ref a__law_odd)
  a__law_is_integer : Addr
  d__law_is_integer : FuncData
  F__law_is_integer : FnP K "_law_is_integer" s__law_is_integer a__law_is_integer d__law_is_integer
  m__law_is_integer : mg "_law_is_integer" = some (.ref a__law_is_integer)
  a__law_exponent : Addr
  d__law_exponent : FuncData
  F__law_exponent : FnP K "_law_exponent" s__law_exponent a__law_exponent d__law_exponent
  m__law_exponent : mg "_law_exponent" = some (.ref a__law_exponent)
  a__law_are_powers_right : Addr
  d__law_are_powers_right : FuncData
  F__law_are_powers_right : FnP K "_law_are_powers_right" s__law_are_powers_right a__law_are_powers_right d__law_are_powers_right
  m__law_are_powers_right : mg "_law_are_powers_right" = some (.ref a__law_are_powers_right)
  a__law_are_gathered_right : Addr
  d__law_are_gathered_right : FuncData
  F__law_are_gathered_right : FnP K "_law_are_gathered_right" s__law_are_gathered_right a__law_are_gathered_right d__law_are_gathered_right
  m__law_are_gathered_right : mg "_law_are_gathered_right" = some (.ref a__law_are_gathered_right)
  a_law : Addr
  d_law : FuncData
  F_law : FnP K "law" s_law a_law d_law
  m_law : mg "law" = some (.ref a_law)
  n_abs : mg "abs" = none
  n_all : mg "all" = none
  n_bool : mg "bool" = none
  n_int : mg "int" = none
  n_isinstance : mg "isinstance" = none
  n_len : mg "len" = none
  n_list : mg "list" = none
  n_max : mg "max" = none
  n_range : mg "range" = none
  n_repr : mg "repr" = none
  n_sorted : mg "sorted" = none
  n_str : mg "str" = none
  n_tuple : mg "tuple" = none
  i_gcd : mg "gcd" = some (.builtin "math.gcd")
  i_isqrt : mg "isqrt" = some (.builtin "math.isqrt")
  k_FIRST_SIDE : mg "FIRST_SIDE" = some (.ref (He.ga K "FIRST_SIDE")) ∧ SqT K NK (He.ga K "FIRST_SIDE") (List.map V.int [1, -1, 1, 1, -1])
  k_GREATEST_POWER : ∃ t, mg "GREATEST_POWER" = some (.int 2000 t)
  k_KEY_RULE : mg "KEY_RULE" = some (.ref (He.ga K "KEY_RULE")) ∧ SqT K NK (He.ga K "KEY_RULE") (List.map V.int [0, -1, 1])
  k_MOST_TIMES : ∃ t, mg "MOST_TIMES" = some (.int 400 t)
  k_REGULAR_SIDE : mg "REGULAR_SIDE" = some (.ref (He.ga K "REGULAR_SIDE")) ∧ SqT K NK (He.ga K "REGULAR_SIDE") (List.map V.int [0, 0, 0, 0, 0])
  k_ZERO : mg "ZERO" = some (.ref (He.ga K "ZERO")) ∧ SqT K NK (He.ga K "ZERO") (List.map V.int [0, 0, 1])
  I_Floor : InsK K "Floor" ["all_keys", "side"]
  M_Floor : Mk K (insA K "Floor") a_Floor_init
  g_Floor : mg "Floor" = some (.ref (insA K "Floor"))
  E_Floor : PySem.W.findIn K (.ref (insA K "Floor")) "__eq__" = some (some (.ref a_Floor_eq)) ∧ PySem.W.isFn K (.ref a_Floor_eq) = true
  mx : mxB K = true
  sm : smB K = true
  c_BadCount : Addr
  f_BadCount : Addr
  X_BadCount : ExF K mg "BadCount" "thing" c_BadCount f_BadCount
  j_BadCount : FuncData
  G_BadCount : FunD K "__init__" "BadCount.__init__" (defArgs i_BadCount) (defBody i_BadCount) (defScope i_BadCount) [] [] f_BadCount j_BadCount
  S_BadCount : ∃ C, clsAt K "BadCount" = .ref C ∧ ExIs K C
  c_BadNumber : Addr
  f_BadNumber : Addr
  X_BadNumber : ExF K mg "BadNumber" "thing" c_BadNumber f_BadNumber
  j_BadNumber : FuncData
  G_BadNumber : FunD K "__init__" "BadNumber.__init__" (defArgs i_BadNumber) (defBody i_BadNumber) (defScope i_BadNumber) [] [] f_BadNumber j_BadNumber
  S_BadNumber : ∃ C, clsAt K "BadNumber" = .ref C ∧ ExIs K C
  c_BadPower : Addr
  f_BadPower : Addr
  X_BadPower : ExF K mg "BadPower" "thing" c_BadPower f_BadPower
  j_BadPower : FuncData
  G_BadPower : FunD K "__init__" "BadPower.__init__" (defArgs i_BadPower) (defBody i_BadPower) (defScope i_BadPower) [] [] f_BadPower j_BadPower
  S_BadPower : ∃ C, clsAt K "BadPower" = .ref C ∧ ExIs K C
  c_BadSide : Addr
  f_BadSide : Addr
  X_BadSide : ExF K mg "BadSide" "thing" c_BadSide f_BadSide
  j_BadSide : FuncData
  G_BadSide : FunD K "__init__" "BadSide.__init__" (defArgs i_BadSide) (defBody i_BadSide) (defScope i_BadSide) [] [] f_BadSide j_BadSide
  S_BadSide : ∃ C, clsAt K "BadSide" = .ref C ∧ ExIs K C
  r_BadCount : Addr
  R_BadCount : clsAt K "BadCount" = .ref r_BadCount ∧ mg "BadCount" = some (.ref r_BadCount)
  r_BadNumber : Addr
  R_BadNumber : clsAt K "BadNumber" = .ref r_BadNumber ∧ mg "BadNumber" = some (.ref r_BadNumber)
  r_BadPower : Addr
  R_BadPower : clsAt K "BadPower" = .ref r_BadPower ∧ mg "BadPower" = some (.ref r_BadPower)
  r_Floor : Addr
  R_Floor : clsAt K "Floor" = .ref r_Floor ∧ mg "Floor" = some (.ref r_Floor)
  r_FloorError : Addr
  R_FloorError : clsAt K "FloorError" = .ref r_FloorError ∧ mg "FloorError" = some (.ref r_FloorError)
  e_BadCount_BadPower : PySem.W.exmOne K (clsAt K "BadCount") (clsAt K "BadPower") = some false
  e_BadNumber_BadPower : PySem.W.exmOne K (clsAt K "BadNumber") (clsAt K "BadPower") = some false
  e_BadPower_BadPower : PySem.W.exmOne K (clsAt K "BadPower") (clsAt K "BadPower") = some true
  e_BadSide_BadPower : PySem.W.exmOne K (clsAt K "BadSide") (clsAt K "BadPower") = some false
  e_DividedByZero_BadPower : PySem.W.exmOne K (clsAt K "DividedByZero") (clsAt K "BadPower") = some false
  e_BadCount_FloorError : PySem.W.exmOne K (clsAt K "BadCount") (clsAt K "FloorError") = some true
  e_BadNumber_FloorError : PySem.W.exmOne K (clsAt K "BadNumber") (clsAt K "FloorError") = some true
  e_BadPower_FloorError : PySem.W.exmOne K (clsAt K "BadPower") (clsAt K "FloorError") = some true
  e_BadSide_FloorError : PySem.W.exmOne K (clsAt K "BadSide") (clsAt K "FloorError") = some true
  e_DividedByZero_FloorError : PySem.W.exmOne K (clsAt K "DividedByZero") (clsAt K "FloorError") = some true
  k_BadCount_BadCount : PySem.W.kitOne K (clsAt K "BadCount") (clsAt K "BadCount") = some true
  k_BadNumber_BadCount : PySem.W.kitOne K (clsAt K "BadNumber") (clsAt K "BadCount") = some false
  k_BadPower_BadCount : PySem.W.kitOne K (clsAt K "BadPower") (clsAt K "BadCount") = some false
  k_BadSide_BadCount : PySem.W.kitOne K (clsAt K "BadSide") (clsAt K "BadCount") = some false
  k_DividedByZero_BadCount : PySem.W.kitOne K (clsAt K "DividedByZero") (clsAt K "BadCount") = some false
  k_BadCount_BadNumber : PySem.W.kitOne K (clsAt K "BadCount") (clsAt K "BadNumber") = some false
  k_BadNumber_BadNumber : PySem.W.kitOne K (clsAt K "BadNumber") (clsAt K "BadNumber") = some true
  k_BadPower_BadNumber : PySem.W.kitOne K (clsAt K "BadPower") (clsAt K "BadNumber") = some false
  k_BadSide_BadNumber : PySem.W.kitOne K (clsAt K "BadSide") (clsAt K "BadNumber") = some false
  k_DividedByZero_BadNumber : PySem.W.kitOne K (clsAt K "DividedByZero") (clsAt K "BadNumber") = some false
  k_BadCount_Floor : PySem.W.kitOne K (clsAt K "BadCount") (clsAt K "Floor") = some false
  k_BadNumber_Floor : PySem.W.kitOne K (clsAt K "BadNumber") (clsAt K "Floor") = some false
  k_BadPower_Floor : PySem.W.kitOne K (clsAt K "BadPower") (clsAt K "Floor") = some false
  k_BadSide_Floor : PySem.W.kitOne K (clsAt K "BadSide") (clsAt K "Floor") = some false
  k_DividedByZero_Floor : PySem.W.kitOne K (clsAt K "DividedByZero") (clsAt K "Floor") = some false
  k_BadCount_FloorError : PySem.W.kitOne K (clsAt K "BadCount") (clsAt K "FloorError") = some true
  k_BadNumber_FloorError : PySem.W.kitOne K (clsAt K "BadNumber") (clsAt K "FloorError") = some true
  k_BadPower_FloorError : PySem.W.kitOne K (clsAt K "BadPower") (clsAt K "FloorError") = some true
  k_BadSide_FloorError : PySem.W.kitOne K (clsAt K "BadSide") (clsAt K "FloorError") = some true
  k_DividedByZero_FloorError : PySem.W.kitOne K (clsAt K "DividedByZero") (clsAt K "FloorError") = some true
  a_DividedByZero : Addr
  C_DividedByZero : ClsF K mg "DividedByZero" a_DividedByZero
  S_DividedByZero : ∃ C, clsAt K "DividedByZero" = .ref C ∧ ExIs K C
section
variable {P : Program} {w : World} {K : PySem.W.Frag} {mg : Str → Option Value} {base : Heap}
theorem it_BadCount : InitTx "thing" (defBody i_BadCount) (defScope i_BadCount) := ⟨⟨_, _, _, _, rfl⟩, rfl, rfl, rfl, rfl, rfl, by decide, by decide, by decide⟩
theorem bi_BadCount (t : Tx K mg) : Binds K t.j_BadCount ["self", "thing"] [] := t.G_BadCount.bindsN fun _ _ _ _ _ _ us hl => match us, hl with | [_, _], _ => rfl
theorem it_BadNumber : InitTx "thing" (defBody i_BadNumber) (defScope i_BadNumber) := ⟨⟨_, _, _, _, rfl⟩, rfl, rfl, rfl, rfl, rfl, by decide, by decide, by decide⟩
theorem bi_BadNumber (t : Tx K mg) : Binds K t.j_BadNumber ["self", "thing"] [] := t.G_BadNumber.bindsN fun _ _ _ _ _ _ us hl => match us, hl with | [_, _], _ => rfl
theorem it_BadPower : InitTx "thing" (defBody i_BadPower) (defScope i_BadPower) := ⟨⟨_, _, _, _, rfl⟩, rfl, rfl, rfl, rfl, rfl, by decide, by decide, by decide⟩
theorem bi_BadPower (t : Tx K mg) : Binds K t.j_BadPower ["self", "thing"] [] := t.G_BadPower.bindsN fun _ _ _ _ _ _ us hl => match us, hl with | [_, _], _ => rfl
theorem it_BadSide : InitTx "thing" (defBody i_BadSide) (defScope i_BadSide) := ⟨⟨_, _, _, _, rfl⟩, rfl, rfl, rfl, rfl, rfl, by decide, by decide, by decide⟩
theorem bi_BadSide (t : Tx K mg) : Binds K t.j_BadSide ["self", "thing"] [] := t.G_BadSide.bindsN fun _ _ _ _ _ _ us hl => match us, hl with | [_, _], _ => rfl
def mm_BadPower (n : Str) : Option Bool := if n = "BadCount" then some false else if n = "BadNumber" then some false else if n = "BadPower" then some true else if n = "BadSide" then some false else if n = "DividedByZero" then some false else none
theorem hm_BadPower (t : Tx K mg) : ∀ n b, mm_BadPower n = some b → PySem.W.exmOne K (clsAt K n) (.ref t.r_BadPower) = some b := by
  intro n b h
  rw [← t.R_BadPower.1]
  unfold mm_BadPower at h
  split at h
  · rename_i e
    subst e
    cases h
    exact t.e_BadCount_BadPower
  split at h
  · rename_i e
    subst e
    cases h
    exact t.e_BadNumber_BadPower
  split at h
  · rename_i e
    subst e
    cases h
    exact t.e_BadPower_BadPower
  split at h
  · rename_i e
    subst e
    cases h
    exact t.e_BadSide_BadPower
  split at h
  · rename_i e
    subst e
    cases h
    exact t.e_DividedByZero_BadPower
  cases h
theorem xf_BadPower (t : Tx K mg) {n : Str} (h : mm_BadPower n = some true) : ∃ C, clsAt K n = .ref C ∧ XfC K C ∧ PySem.W.findIn K (.ref C) "thing" = some none := by
  unfold mm_BadPower at h
  split at h
  · rename_i e
    subst e
    exact ⟨_, t.X_BadCount.at_, t.X_BadCount.xf, t.X_BadCount.no⟩
  split at h
  · rename_i e
    subst e
    exact ⟨_, t.X_BadNumber.at_, t.X_BadNumber.xf, t.X_BadNumber.no⟩
  split at h
  · rename_i e
    subst e
    exact ⟨_, t.X_BadPower.at_, t.X_BadPower.xf, t.X_BadPower.no⟩
  split at h
  · rename_i e
    subst e
    exact ⟨_, t.X_BadSide.at_, t.X_BadSide.xf, t.X_BadSide.no⟩
  split at h
  · cases h
  cases h
theorem es_BadPower (t : Tx K mg) {n : Str} (h : mm_BadPower n = some true) : ∃ C, clsAt K n = .ref C ∧ ExIs K C := by
  unfold mm_BadPower at h
  split at h
  · rename_i e
    subst e
    exact t.S_BadCount
  split at h
  · rename_i e
    subst e
    exact t.S_BadNumber
  split at h
  · rename_i e
    subst e
    exact t.S_BadPower
  split at h
  · rename_i e
    subst e
    exact t.S_BadSide
  split at h
  · cases h
  cases h
def mm_FloorError (n : Str) : Option Bool := if n = "BadCount" then some true else if n = "BadNumber" then some true else if n = "BadPower" then some true else if n = "BadSide" then some true else if n = "DividedByZero" then some true else none
theorem hm_FloorError (t : Tx K mg) : ∀ n b, mm_FloorError n = some b → PySem.W.exmOne K (clsAt K n) (.ref t.r_FloorError) = some b := by
  intro n b h
  rw [← t.R_FloorError.1]
  unfold mm_FloorError at h
  split at h
  · rename_i e
    subst e
    cases h
    exact t.e_BadCount_FloorError
  split at h
  · rename_i e
    subst e
    cases h
    exact t.e_BadNumber_FloorError
  split at h
  · rename_i e
    subst e
    cases h
    exact t.e_BadPower_FloorError
  split at h
  · rename_i e
    subst e
    cases h
    exact t.e_BadSide_FloorError
  split at h
  · rename_i e
    subst e
    cases h
    exact t.e_DividedByZero_FloorError
  cases h
def is_BadCount (n : Str) : Option Bool := if n = "BadCount" then some true else if n = "BadNumber" then some false else if n = "BadPower" then some false else if n = "BadSide" then some false else if n = "DividedByZero" then some false else none
theorem kt_BadCount (t : Tx K mg) : ∀ n b, is_BadCount n = some b → PySem.W.kitOne K (clsAt K n) (.ref t.r_BadCount) = some b := by
  intro n b h
  rw [← t.R_BadCount.1]
  unfold is_BadCount at h
  split at h
  · rename_i e
    subst e
    cases h
    exact t.k_BadCount_BadCount
  split at h
  · rename_i e
    subst e
    cases h
    exact t.k_BadNumber_BadCount
  split at h
  · rename_i e
    subst e
    cases h
    exact t.k_BadPower_BadCount
  split at h
  · rename_i e
    subst e
    cases h
    exact t.k_BadSide_BadCount
  split at h
  · rename_i e
    subst e
    cases h
    exact t.k_DividedByZero_BadCount
  cases h
def is_BadNumber (n : Str) : Option Bool := if n = "BadCount" then some false else if n = "BadNumber" then some true else if n = "BadPower" then some false else if n = "BadSide" then some false else if n = "DividedByZero" then some false else none
theorem kt_BadNumber (t : Tx K mg) : ∀ n b, is_BadNumber n = some b → PySem.W.kitOne K (clsAt K n) (.ref t.r_BadNumber) = some b := by
  intro n b h
  rw [← t.R_BadNumber.1]
  unfold is_BadNumber at h
  split at h
  · rename_i e
    subst e
    cases h
    exact t.k_BadCount_BadNumber
  split at h
  · rename_i e
    subst e
    cases h
    exact t.k_BadNumber_BadNumber
  split at h
  · rename_i e
    subst e
    cases h
    exact t.k_BadPower_BadNumber
  split at h
  · rename_i e
    subst e
    cases h
    exact t.k_BadSide_BadNumber
  split at h
  · rename_i e
    subst e
    cases h
    exact t.k_DividedByZero_BadNumber
  cases h
def is_Floor (n : Str) : Option Bool := if n = "BadCount" then some false else if n = "BadNumber" then some false else if n = "BadPower" then some false else if n = "BadSide" then some false else if n = "DividedByZero" then some false else none
theorem kt_Floor (t : Tx K mg) : ∀ n b, is_Floor n = some b → PySem.W.kitOne K (clsAt K n) (.ref t.r_Floor) = some b := by
  intro n b h
  rw [← t.R_Floor.1]
  unfold is_Floor at h
  split at h
  · rename_i e
    subst e
    cases h
    exact t.k_BadCount_Floor
  split at h
  · rename_i e
    subst e
    cases h
    exact t.k_BadNumber_Floor
  split at h
  · rename_i e
    subst e
    cases h
    exact t.k_BadPower_Floor
  split at h
  · rename_i e
    subst e
    cases h
    exact t.k_BadSide_Floor
  split at h
  · rename_i e
    subst e
    cases h
    exact t.k_DividedByZero_Floor
  cases h
def is_FloorError (n : Str) : Option Bool := if n = "BadCount" then some true else if n = "BadNumber" then some true else if n = "BadPower" then some true else if n = "BadSide" then some true else if n = "DividedByZero" then some true else none
theorem kt_FloorError (t : Tx K mg) : ∀ n b, is_FloorError n = some b → PySem.W.kitOne K (clsAt K n) (.ref t.r_FloorError) = some b := by
  intro n b h
  rw [← t.R_FloorError.1]
  unfold is_FloorError at h
  split at h
  · rename_i e
    subst e
    cases h
    exact t.k_BadCount_FloorError
  split at h
  · rename_i e
    subst e
    cases h
    exact t.k_BadNumber_FloorError
  split at h
  · rename_i e
    subst e
    cases h
    exact t.k_BadPower_FloorError
  split at h
  · rename_i e
    subst e
    cases h
    exact t.k_BadSide_FloorError
  split at h
  · rename_i e
    subst e
    cases h
    exact t.k_DividedByZero_FloorError
  cases h
theorem sc_is_plain_integer : FnScope ["thing"] ["thing"] (defScope s_is_plain_integer) := ⟨rfl, rfl, rfl, by decide +kernel, rfl, by decide +kernel, by decide +kernel⟩
theorem b_is_plain_integer (t : Tx K mg) : Binds K t.d_is_plain_integer ["thing"] [] := t.F_is_plain_integer.bindsN fun _ _ _ _ _ _ us hl => match us, hl with | [_], _ => rfl
theorem sc_is_tuple_of : FnScope ["thing", "many"] ["thing", "many"] (defScope s_is_tuple_of) := ⟨rfl, rfl, rfl, by decide +kernel, rfl, by decide +kernel, by decide +kernel⟩
theorem b_is_tuple_of (t : Tx K mg) : Binds K t.d_is_tuple_of ["thing", "many"] [] := t.F_is_tuple_of.bindsN fun _ _ _ _ _ _ us hl => match us, hl with | [_, _], _ => rfl
theorem sc_are_plain_integers : FnScope ["thing", "many", "part"] ["thing", "many"] (defScope s_are_plain_integers) := ⟨rfl, rfl, rfl, by decide +kernel, rfl, by decide +kernel, by decide +kernel⟩
theorem b_are_plain_integers (t : Tx K mg) : Binds K t.d_are_plain_integers ["thing", "many"] [] := t.F_are_plain_integers.bindsN fun _ _ _ _ _ _ us hl => match us, hl with | [_, _], _ => rfl
theorem sc_is_golden : FnScope ["thing", "a", "b", "d"] ["thing"] (defScope s_is_golden) := ⟨rfl, rfl, rfl, by decide +kernel, rfl, by decide +kernel, by decide +kernel⟩
theorem b_is_golden (t : Tx K mg) : Binds K t.d_is_golden ["thing"] [] := t.F_is_golden.bindsN fun _ _ _ _ _ _ us hl => match us, hl with | [_], _ => rfl
theorem sc_need_golden : FnScope ["thing"] ["thing"] (defScope s_need_golden) := ⟨rfl, rfl, rfl, by decide +kernel, rfl, by decide +kernel, by decide +kernel⟩
theorem b_need_golden (t : Tx K mg) : Binds K t.d_need_golden ["thing"] [] := t.F_need_golden.bindsN fun _ _ _ _ _ _ us hl => match us, hl with | [_], _ => rfl
theorem sc__lowest : FnScope ["a", "b", "d", "common"] ["a", "b", "d"] (defScope s__lowest) := ⟨rfl, rfl, rfl, by decide +kernel, rfl, by decide +kernel, by decide +kernel⟩
theorem b__lowest (t : Tx K mg) : Binds K t.d__lowest ["a", "b", "d"] [] := t.F__lowest.bindsN fun _ _ _ _ _ _ us hl => match us, hl with | [_, _, _], _ => rfl
theorem sc_reduced : FnScope ["number", "a", "b", "d"] ["number"] (defScope s_reduced) := ⟨rfl, rfl, rfl, by decide +kernel, rfl, by decide +kernel, by decide +kernel⟩
theorem b_reduced (t : Tx K mg) : Binds K t.d_reduced ["number"] [] := t.F_reduced.bindsN fun _ _ _ _ _ _ us hl => match us, hl with | [_], _ => rfl
theorem sc_minus : FnScope ["one", "other", "a", "b", "d", "c", "e", "f"] ["one", "other"] (defScope s_minus) := ⟨rfl, rfl, rfl, by decide +kernel, rfl, by decide +kernel, by decide +kernel⟩
theorem b_minus (t : Tx K mg) : Binds K t.d_minus ["one", "other"] [] := t.F_minus.bindsN fun _ _ _ _ _ _ us hl => match us, hl with | [_, _], _ => rfl
theorem sc_times : FnScope ["one", "other", "a", "b", "d", "c", "e", "f"] ["one", "other"] (defScope s_times) := ⟨rfl, rfl, rfl, by decide +kernel, rfl, by decide +kernel, by decide +kernel⟩
theorem b_times (t : Tx K mg) : Binds K t.d_times ["one", "other"] [] := t.F_times.bindsN fun _ _ _ _ _ _ us hl => match us, hl with | [_, _], _ => rfl
theorem sc_quotient : FnScope ["one", "other", "a", "b", "d", "c", "e", "f", "norm"] ["one", "other"] (defScope s_quotient) := ⟨rfl, rfl, rfl, by decide +kernel, rfl, by decide +kernel, by decide +kernel⟩
theorem b_quotient (t : Tx K mg) : Binds K t.d_quotient ["one", "other"] [] := t.F_quotient.bindsN fun _ _ _ _ _ _ us hl => match us, hl with | [_, _], _ => rfl
theorem sc_sign_of_parts : FnScope ["a", "b", "front", "does_front_win"] ["a", "b"] (defScope s_sign_of_parts) := ⟨rfl, rfl, rfl, by decide +kernel, rfl, by decide +kernel, by decide +kernel⟩
theorem b_sign_of_parts (t : Tx K mg) : Binds K t.d_sign_of_parts ["a", "b"] [] := t.F_sign_of_parts.bindsN fun _ _ _ _ _ _ us hl => match us, hl with | [_, _], _ => rfl
theorem sc_sign : FnScope ["number"] ["number"] (defScope s_sign) := ⟨rfl, rfl, rfl, by decide +kernel, rfl, by decide +kernel, by decide +kernel⟩
theorem b_sign (t : Tx K mg) : Binds K t.d_sign ["number"] [] := t.F_sign.bindsN fun _ _ _ _ _ _ us hl => match us, hl with | [_], _ => rfl
theorem sc_integer_below : FnScope ["number", "a", "b", "d", "root"] ["number"] (defScope s_integer_below) := ⟨rfl, rfl, rfl, by decide +kernel, rfl, by decide +kernel, by decide +kernel⟩
theorem b_integer_below (t : Tx K mg) : Binds K t.d_integer_below ["number"] [] := t.F_integer_below.bindsN fun _ _ _ _ _ _ us hl => match us, hl with | [_], _ => rfl
theorem sc_integer_above : FnScope ["number", "a", "b", "d"] ["number"] (defScope s_integer_above) := ⟨rfl, rfl, rfl, by decide +kernel, rfl, by decide +kernel, by decide +kernel⟩
theorem b_integer_above (t : Tx K mg) : Binds K t.d_integer_above ["number"] [] := t.F_integer_above.bindsN fun _ _ _ _ _ _ us hl => match us, hl with | [_], _ => rfl
theorem sc_is_whole : FnScope ["number", "a", "b", "d"] ["number"] (defScope s_is_whole) := ⟨rfl, rfl, rfl, by decide +kernel, rfl, by decide +kernel, by decide +kernel⟩
theorem b_is_whole (t : Tx K mg) : Binds K t.d_is_whole ["number"] [] := t.F_is_whole.bindsN fun _ _ _ _ _ _ us hl => match us, hl with | [_], _ => rfl
theorem sc_conjugate : FnScope ["number", "a", "b", "d"] ["number"] (defScope s_conjugate) := ⟨rfl, rfl, rfl, by decide +kernel, rfl, by decide +kernel, by decide +kernel⟩
theorem b_conjugate (t : Tx K mg) : Binds K t.d_conjugate ["number"] [] := t.F_conjugate.bindsN fun _ _ _ _ _ _ us hl => match us, hl with | [_], _ => rfl
theorem sc_power : FnScope ["n", "a", "b", "_"] ["n"] (defScope s_power) := ⟨rfl, rfl, rfl, by decide +kernel, rfl, by decide +kernel, by decide +kernel⟩
theorem b_power (t : Tx K mg) : Binds K t.d_power ["n"] [] := t.F_power.bindsN fun _ _ _ _ _ _ us hl => match us, hl with | [_], _ => rfl
theorem sc_five_by_rule : FnScope ["factor", "first", "second", "five"] ["factor", "first", "second"] (defScope s_five_by_rule) := ⟨rfl, rfl, rfl, by decide +kernel, rfl, by decide +kernel, by decide +kernel⟩
theorem b_five_by_rule (t : Tx K mg) : Binds K t.d_five_by_rule ["factor", "first", "second"] [] := t.F_five_by_rule.bindsN fun _ _ _ _ _ _ us hl => match us, hl with | [_, _, _], _ => rfl
theorem sc_led_round : FnScope ["five", "many", "r"] ["five", "many"] (defScope s_led_round) := ⟨rfl, rfl, rfl, by decide +kernel, rfl, by decide +kernel, by decide +kernel⟩
theorem b_led_round (t : Tx K mg) : Binds K t.d_led_round ["five", "many"] [] := t.F_led_round.bindsN fun _ _ _ _ _ _ us hl => match us, hl with | [_, _], _ => rfl
theorem sc_with_part : FnScope ["five", "direction", "part"] ["five", "direction", "part"] (defScope s_with_part) := ⟨rfl, rfl, rfl, by decide +kernel, rfl, by decide +kernel, by decide +kernel⟩
theorem b_with_part (t : Tx K mg) : Binds K t.d_with_part ["five", "direction", "part"] [] := t.F_with_part.bindsN fun _ _ _ _ _ _ us hl => match us, hl with | [_, _, _], _ => rfl
theorem sc_stepped : FnScope ["row", "direction", "by"] ["row", "direction", "by"] (defScope s_stepped) := ⟨rfl, rfl, rfl, by decide +kernel, rfl, by decide +kernel, by decide +kernel⟩
theorem b_stepped (t : Tx K mg) : Binds K t.d_stepped ["row", "direction", "by"] [] := t.F_stepped.bindsN fun _ _ _ _ _ _ us hl => match us, hl with | [_, _, _], _ => rfl
theorem sc_keys_by : FnScope ["one", "other"] ["one", "other"] (defScope s_keys_by) := ⟨rfl, rfl, rfl, by decide +kernel, rfl, by decide +kernel, by decide +kernel⟩
theorem b_keys_by (t : Tx K mg) : Binds K t.d_keys_by ["one", "other"] [] := t.F_keys_by.bindsN fun _ _ _ _ _ _ us hl => match us, hl with | [_, _], _ => rfl
theorem sc__whole_directions : FnScope ["all_keys", "r"] ["all_keys"] (defScope s__whole_directions) := ⟨rfl, rfl, rfl, by decide +kernel, rfl, by decide +kernel, by decide +kernel⟩
theorem b__whole_directions (t : Tx K mg) : Binds K t.d__whole_directions ["all_keys"] [] := t.F__whole_directions.bindsN fun _ _ _ _ _ _ us hl => match us, hl with | [_], _ => rfl
theorem sc__sides_of : FnScope ["all_keys", "whole", "found", "q", "turned_side", "part"] ["all_keys"] (defScope s__sides_of) := ⟨rfl, rfl, rfl, by decide +kernel, rfl, by decide +kernel, by decide +kernel⟩
theorem b__sides_of (t : Tx K mg) : Binds K t.d__sides_of ["all_keys"] [] := t.F__sides_of.bindsN fun _ _ _ _ _ _ us hl => match us, hl with | [_], _ => rfl
theorem sc_Floor_init : FnScope ["self", "one", "other", "side", "all_keys"] ["self", "one", "other", "side"] (defScope s_Floor_init) := ⟨rfl, rfl, rfl, by decide +kernel, rfl, by decide +kernel, by decide +kernel⟩
theorem bd_Floor_init_3 (t : Tx K mg) : ∃ ds, Vals ([.ref t.v_Floor_init] : List V) ds ∧ Binds K t.d_Floor_init ["self", "one", "other", "side"] ds := FunD.binds1 t.F_Floor_init 3 0 (fun z => by cases z) rfl fun _ _ _ _ _ _ _ us its hu hi => match us, hu, its, hi with | [_, _, _], _, [_], _ => ⟨_, rfl, rfl⟩
theorem bd_Floor_init_4 (t : Tx K mg) : ∃ ds, Vals ([] : List V) ds ∧ Binds K t.d_Floor_init ["self", "one", "other", "side"] ds := FunD.binds1 t.F_Floor_init 4 1 (fun z => by cases z) rfl fun _ _ _ _ _ _ _ us its hu hi => match us, hu, its, hi with | [_, _, _, _], _, [_], _ => ⟨_, rfl, rfl⟩
theorem b_Floor_init (t : Tx K mg) : Binds K t.d_Floor_init ["self", "one", "other", "side"] [] := bD_full (bd_Floor_init_4 t)
theorem sc_Floor_eq : FnScope ["self", "other"] ["self", "other"] (defScope s_Floor_eq) := ⟨rfl, rfl, rfl, by decide +kernel, rfl, by decide +kernel, by decide +kernel⟩
theorem b_Floor_eq (t : Tx K mg) : Binds K t.d_Floor_eq ["self", "other"] [] := t.F_Floor_eq.bindsN fun _ _ _ _ _ _ us hl => match us, hl with | [_, _], _ => rfl
theorem sc_whole_keys : FnScope ["floor"] ["floor"] (defScope s_whole_keys) := ⟨rfl, rfl, rfl, by decide +kernel, rfl, by decide +kernel, by decide +kernel⟩
theorem b_whole_keys (t : Tx K mg) : Binds K t.d_whole_keys ["floor"] [] := t.F_whole_keys.bindsN fun _ _ _ _ _ _ us hl => match us, hl with | [_], _ => rfl
theorem sc_gathered_times : FnScope ["floor", "many", "factor", "side", "part"] ["floor", "many"] (defScope s_gathered_times) := ⟨rfl, rfl, rfl, by decide +kernel, rfl, by decide +kernel, by decide +kernel⟩
theorem b_gathered_times (t : Tx K mg) : Binds K t.d_gathered_times ["floor", "many"] [] := t.F_gathered_times.bindsN fun _ _ _ _ _ _ us hl => match us, hl with | [_, _], _ => rfl
theorem sc_gathered : FnScope ["floor"] ["floor"] (defScope s_gathered) := ⟨rfl, rfl, rfl, by decide +kernel, rfl, by decide +kernel, by decide +kernel⟩
theorem b_gathered (t : Tx K mg) : Binds K t.d_gathered ["floor"] [] := t.F_gathered.bindsN fun _ _ _ _ _ _ us hl => match us, hl with | [_], _ => rfl
theorem sc_cut_floor : FnScope ["floor"] ["floor"] (defScope s_cut_floor) := ⟨rfl, rfl, rfl, by decide +kernel, rfl, by decide +kernel, by decide +kernel⟩
theorem b_cut_floor (t : Tx K mg) : Binds K t.d_cut_floor ["floor"] [] := t.F_cut_floor.bindsN fun _ _ _ _ _ _ us hl => match us, hl with | [_], _ => rfl
theorem sc__law_deck : FnScope ["_law_script", "_law_mixed", "_law_cell"] ["_law_script"] (defScope s__law_deck) := ⟨rfl, rfl, rfl, by decide +kernel, rfl, by decide +kernel, by decide +kernel⟩
theorem b__law_deck (t : Tx K mg) : Binds K t.d__law_deck ["_law_script"] [] := t.F__law_deck.bindsN fun _ _ _ _ _ _ us hl => match us, hl with | [_], _ => rfl
theorem sc__law_draw : FnScope ["_law_deck_here", "_law_many", "_law_figure", "_law_cell"] ["_law_deck_here", "_law_many"] (defScope s__law_draw) := ⟨rfl, rfl, rfl, by decide +kernel, rfl, by decide +kernel, by decide +kernel⟩
theorem b__law_draw (t : Tx K mg) : Binds K t.d__law_draw ["_law_deck_here", "_law_many"] [] := t.F__law_draw.bindsN fun _ _ _ _ _ _ us hl => match us, hl with | [_, _], _ => rfl
theorem sc__law_pick : FnScope ["_law_deck_here", "_law_some"] ["_law_deck_here", "_law_some"] (defScope s__law_pick) := ⟨rfl, rfl, rfl, by decide +kernel, rfl, by decide +kernel, by decide +kernel⟩
theorem b__law_pick (t : Tx K mg) : Binds K t.d__law_pick ["_law_deck_here", "_law_some"] [] := t.F__law_pick.bindsN fun _ _ _ _ _ _ us hl => match us, hl with | [_, _], _ => rfl
theorem sc__law_integer : FnScope ["_law_deck_here", "_law_pieces", "_law_way", "_law_facing", "_law_found", "_law_piece"] ["_law_deck_here", "_law_pieces"] (defScope s__law_integer) := ⟨rfl, rfl, rfl, by decide +kernel, rfl, by decide +kernel, by decide +kernel⟩
theorem b__law_integer (t : Tx K mg) : Binds K t.d__law_integer ["_law_deck_here", "_law_pieces"] [] := t.F__law_integer.bindsN fun _ _ _ _ _ _ us hl => match us, hl with | [_, _], _ => rfl
theorem sc__law_common : FnScope ["_law_a", "_law_b", "_law_near", "_law_far"] ["_law_a", "_law_b"] (defScope s__law_common) := ⟨rfl, rfl, rfl, by decide +kernel, rfl, by decide +kernel, by decide +kernel⟩
theorem b__law_common (t : Tx K mg) : Binds K t.d__law_common ["_law_a", "_law_b"] [] := t.F__law_common.bindsN fun _ _ _ _ _ _ us hl => match us, hl with | [_, _], _ => rfl
theorem sc__law_least : FnScope ["_law_a", "_law_b", "_law_d", "_law_common_here"] ["_law_a", "_law_b", "_law_d"] (defScope s__law_least) := ⟨rfl, rfl, rfl, by decide +kernel, rfl, by decide +kernel, by decide +kernel⟩
theorem b__law_least (t : Tx K mg) : Binds K t.d__law_least ["_law_a", "_law_b", "_law_d"] [] := t.F__law_least.bindsN fun _ _ _ _ _ _ us hl => match us, hl with | [_, _, _], _ => rfl
theorem sc__law_keys : FnScope ["_law_near", "_law_far", "_law_at", "_law_found", "_law_turn", "_law_a", "_law_b", "_law_c", "_law_e", "_law_r"] ["_law_near", "_law_far", "_law_at"] (defScope s__law_keys) := ⟨rfl, rfl, rfl, by decide +kernel, rfl, by decide +kernel, by decide +kernel⟩
theorem b__law_keys (t : Tx K mg) : Binds K t.d__law_keys ["_law_near", "_law_far", "_law_at"] [] := t.F__law_keys.bindsN fun _ _ _ _ _ _ us hl => match us, hl with | [_, _, _], _ => rfl
theorem sc__law_sides : FnScope ["_law_whole", "_law_signs", "_law_r", "_law_it", "_law_found", "_law_q", "_law_some"] ["_law_whole"] (defScope s__law_sides) := ⟨rfl, rfl, rfl, by decide +kernel, rfl, by decide +kernel, by decide +kernel⟩
theorem b__law_sides (t : Tx K mg) : Binds K t.d__law_sides ["_law_whole"] [] := t.F__law_sides.bindsN fun _ _ _ _ _ _ us hl => match us, hl with | [_], _ => rfl
theorem sc__law_tiny : FnScope ["_law_side", "_law_some", "_law_r", "_law_ringed", "_law_q"] ["_law_side"] (defScope s__law_tiny) := ⟨rfl, rfl, rfl, by decide +kernel, rfl, by decide +kernel, by decide +kernel⟩
theorem b__law_tiny (t : Tx K mg) : Binds K t.d__law_tiny ["_law_side"] [] := t.F__law_tiny.bindsN fun _ _ _ _ _ _ us hl => match us, hl with | [_], _ => rfl
theorem sc__law_world : FnScope ["_law_deck_here", "_law_at", "_law_way", "_law_d", "_law_pairs", "_law_turn", "_law_a", "_law_b", "_law_keys_here", "_law_whole", "_law_r", "_law_side"] ["_law_deck_here"] (defScope s__law_world) := ⟨rfl, rfl, rfl, by decide +kernel, rfl, by decide +kernel, by decide +kernel⟩
theorem b__law_world (t : Tx K mg) : Binds K t.d__law_world ["_law_deck_here"] [] := t.F__law_world.bindsN fun _ _ _ _ _ _ us hl => match us, hl with | [_], _ => rfl
theorem sc__law_same : FnScope ["_law_told", "_law_due"] ["_law_told", "_law_due"] (defScope s__law_same) := ⟨rfl, rfl, rfl, by decide +kernel, rfl, by decide +kernel, by decide +kernel⟩
theorem b__law_same (t : Tx K mg) : Binds K t.d__law_same ["_law_told", "_law_due"] [] := t.F__law_same.bindsN fun _ _ _ _ _ _ us hl => match us, hl with | [_, _], _ => rfl
theorem sc__law_power : FnScope ["_law_n", "_law_a", "_law_b", "_law_turn"] ["_law_n"] (defScope s__law_power) := ⟨rfl, rfl, rfl, by decide +kernel, rfl, by decide +kernel, by decide +kernel⟩
theorem b__law_power (t : Tx K mg) : Binds K t.d__law_power ["_law_n"] [] := t.F__law_power.bindsN fun _ _ _ _ _ _ us hl => match us, hl with | [_], _ => rfl
theorem sc__law_times : FnScope ["_law_p", "_law_a", "_law_b"] ["_law_p", "_law_a", "_law_b"] (defScope s__law_times) := ⟨rfl, rfl, rfl, by decide +kernel, rfl, by decide +kernel, by decide +kernel⟩
theorem b__law_times (t : Tx K mg) : Binds K t.d__law_times ["_law_p", "_law_a", "_law_b"] [] := t.F__law_times.bindsN fun _ _ _ _ _ _ us hl => match us, hl with | [_, _, _], _ => rfl
theorem sc__law_refused : FnScope ["_law_thing", "_law_is_named", "_law_told", "_law_e", "_law_is_other"] ["_law_thing", "_law_is_named"] (defScope s__law_refused) := ⟨rfl, rfl, rfl, by decide +kernel, rfl, by decide +kernel, by decide +kernel⟩
theorem b__law_refused (t : Tx K mg) : Binds K t.d__law_refused ["_law_thing", "_law_is_named"] [] := t.F__law_refused.bindsN fun _ _ _ _ _ _ us hl => match us, hl with | [_, _], _ => rfl
theorem sc__law_odd : FnScope ["_law_deck_here", "_law_n", "_law_some"] ["_law_deck_here", "_law_n"] (defScope s__law_odd) := ⟨rfl, rfl, rfl, by decide +kernel, rfl, by decide +kernel, by decide +kernel⟩
theorem b__law_odd (t : Tx K mg) : Binds K t.d__law_odd ["_law_deck_here", "_law_n"] [] := t.F__law_odd.bindsN fun _ _ _ _ _ _ us hl => match us, hl with | [_, _], _ => rfl
theorem sc__law_is_integer : FnScope ["_law_thing", "_law_least_here", "_law_most"] ["_law_thing", "_law_least_here", "_law_most"] (defScope s__law_is_integer) := ⟨rfl, rfl, rfl, by decide +kernel, rfl, by decide +kernel, by decide +kernel⟩
theorem b__law_is_integer (t : Tx K mg) : Binds K t.d__law_is_integer ["_law_thing", "_law_least_here", "_law_most"] [] := t.F__law_is_integer.bindsN fun _ _ _ _ _ _ us hl => match us, hl with | [_, _, _], _ => rfl
theorem sc__law_exponent : FnScope ["_law_deck_here", "_law_way", "_law_facing"] ["_law_deck_here"] (defScope s__law_exponent) := ⟨rfl, rfl, rfl, by decide +kernel, rfl, by decide +kernel, by decide +kernel⟩
theorem b__law_exponent (t : Tx K mg) : Binds K t.d__law_exponent ["_law_deck_here"] [] := t.F__law_exponent.bindsN fun _ _ _ _ _ _ us hl => match us, hl with | [_], _ => rfl
theorem sc__law_are_powers_right : FnScope ["_law_deck_here", "_law_n", "_law_m", "_law_a", "_law_b", "_law_p", "_law_due", "_law_far", "_law_near", "_law_other", "_law_low"] ["_law_deck_here", "_law_n", "_law_m"] (defScope s__law_are_powers_right) := ⟨rfl, rfl, rfl, by decide +kernel, rfl, by decide +kernel, by decide +kernel⟩
theorem b__law_are_powers_right (t : Tx K mg) : Binds K t.d__law_are_powers_right ["_law_deck_here", "_law_n", "_law_m"] [] := t.F__law_are_powers_right.bindsN fun _ _ _ _ _ _ us hl => match us, hl with | [_, _, _], _ => rfl
theorem sc__law_are_gathered_right : FnScope ["_law_deck_here", "_law_world_here", "_law_d", "_law_keys_here", "_law_side", "_law_plane", "_law_n", "_law_a", "_law_b", "_law_facing", "_law_due", "_law_x", "_law_y", "_law_it", "_law_told", "_law_r"] ["_law_deck_here"] (defScope s__law_are_gathered_right) := ⟨rfl, rfl, rfl, by decide +kernel, rfl, by decide +kernel, by decide +kernel⟩
theorem b__law_are_gathered_right (t : Tx K mg) : Binds K t.d__law_are_gathered_right ["_law_deck_here"] [] := t.F__law_are_gathered_right.bindsN fun _ _ _ _ _ _ us hl => match us, hl with | [_], _ => rfl
theorem sc_law : FnScope ["_law_script", "_law_deck_here", "_law_turn", "_law_n", "_law_m", "_law_thing", "_law_due"] ["_law_script"] (defScope s_law) := ⟨rfl, rfl, rfl, by decide +kernel, rfl, by decide +kernel, by decide +kernel⟩
theorem b_law (t : Tx K mg) : Binds K t.d_law ["_law_script"] [] := t.F_law.bindsN fun _ _ _ _ _ _ us hl => match us, hl with | [_], _ => rfl
def T_is_plain_integer : TDS := (dRet (dAnd (dUn (gIs .int) (dVar 0)) (dNot (dUn (gIs .bool) (dVar 0)))))
def tf_is_plain_integer : TF := fun _ ds Q => tfOf 1 T_is_plain_integer (fun _ => False) ds Q
theorem ok_is_plain_integer (t : Tx K mg) : FnG P w K mg base CX0 1 t.a_is_plain_integer t.d_is_plain_integer ["thing"] (spD K 1 tf_is_plain_integer) := by
  have sc := sc_is_plain_integer
  exact fng_data (N := ["thing"]) (T := T_is_plain_integer) t.F_is_plain_integer sc fun cdv A outer s H E F hK hF room =>
    (ds_one (ds_ret (d_and (d_isi (T := .int) hK rfl t.n_isinstance rfl t.n_int (by decide +kernel) (d_var (pv 0))) (d_one (d_not (d_isi (T := .bool) hK rfl t.n_isinstance rfl t.n_bool (by decide +kernel) (d_var (pv 0))))))))
def T_is_tuple_of : TDS := (dRet (dAnd (dUn (gIs .tuple) (dVar 0)) (dBin gEq (dCB gLen (dCons (dVar 0) dNil)) (dVar 1))))
def tf_is_tuple_of : TF := fun _ ds Q => tfOf 2 T_is_tuple_of (fun _ => False) ds Q
theorem ok_is_tuple_of (t : Tx K mg) : FnG P w K mg base CX0 1 t.a_is_tuple_of t.d_is_tuple_of ["thing", "many"] (spD K 2 tf_is_tuple_of) := by
  have sc := sc_is_tuple_of
  exact fng_data (N := ["thing", "many"]) (T := T_is_tuple_of) t.F_is_tuple_of sc fun cdv A outer s H E F hK hF room =>
    (ds_one (ds_ret (d_and (d_isi (T := .tuple) hK rfl t.n_isinstance rfl t.n_tuple (by decide +kernel) (d_var (pv 0))) (d_one (d_eq hK room.r.units (d_callB (hK ▸ cd_len) call_len_seq rfl t.n_len (by decide +kernel) (da_cons (d_var (pv 0)) da_nil)) (d_var (pv 1)))))))
def T_are_plain_integers : TDS := (dRet (dAnd (dCall 2 tf_is_tuple_of (dCons (dVar 0) (dCons (dVar 1) dNil))) (dCB gAll (dCons (dLcV 0 2 dYes (dCall 1 tf_is_plain_integer (dCons (dVar 2) dNil))) dNil))))
def tf_are_plain_integers : TF := fun _ ds Q => tfOf 3 T_are_plain_integers (fun _ => False) ds Q
theorem ok_are_plain_integers (t : Tx K mg) : FnG P w K mg base CX0 2 t.a_are_plain_integers t.d_are_plain_integers ["thing", "many"] (spD K 2 tf_are_plain_integers) := by
  have sc := sc_are_plain_integers
  exact fng_data (N := ["thing", "many", "part"]) (T := T_are_plain_integers) t.F_are_plain_integers sc fun cdv A outer s H E F hK hF room =>
    (ds_one (ds_ret (d_and (d_call (ok_is_tuple_of t) hK (room.mono (by decide)) rfl t.m_is_tuple_of t.F_is_tuple_of.kp (b_is_tuple_of t) (da_cons (d_var (pv 0)) (da_cons (d_var (pv 1)) da_nil))) (d_one (d_callB (hK ▸ cd_all) (cr_all rfl) rfl t.n_all (by decide +kernel) (da_cons (d_lcV hK rfl sc.nd (pv 0) (blkOk_by (own := [("part", 2)]) (N := ["thing", "many", "part"]) (sc := defScope s_are_plain_integers) (by decide +kernel)) rfl (fun _ _ _ _ _ => pg_name (i := 2) sc.nd rfl (by first | exact Or.inl rfl | exact Or.inr rfl)) (fun _ _ _ _ _ => dts_nil) (fun _ _ _ _ _ => (d_call (ok_is_plain_integer t) hK (room.mono (by decide)) rfl t.m_is_plain_integer t.F_is_plain_integer.kp (b_is_plain_integer t) (da_cons (d_var (pv 2)) da_nil)))) da_nil))))))
def T_is_golden : TDS := (dSeq (dIfS (dtOr (dtNot (dTest (dUn (gIs .tuple) (dVar 0)))) (dTest (dBin gNe (dCB gLen (dCons (dVar 0) dNil)) (dC (.int 3)))))
    (dRet (dC (.bl false)))
    dNext)
    (dSeq (dAsg (dVar 0) (dgTup 3 (dgCons (dgName 1) (dgCons (dgName 2) (dgCons (dgName 3) dgNil)))))
    (dRet (dAnd (dCall 1 tf_is_plain_integer (dCons (dVar 1) dNil)) (dAnd (dCall 1 tf_is_plain_integer (dCons (dVar 2) dNil)) (dAnd (dCall 1 tf_is_plain_integer (dCons (dVar 3) dNil)) (dBin gGe (dVar 3) (dC (.int 1)))))))))
def tf_is_golden : TF := fun _ ds Q => tfOf 4 T_is_golden (fun _ => False) ds Q
theorem ok_is_golden (t : Tx K mg) : FnG P w K mg base CX0 2 t.a_is_golden t.d_is_golden ["thing"] (spD K 1 tf_is_golden) := by
  have sc := sc_is_golden
  exact fng_data (N := ["thing", "a", "b", "d"]) (T := T_is_golden) t.F_is_golden sc fun cdv A outer s H E F hK hF room =>
    (ds_cons (ds_if (PW.pt (dw_or (dt_not (dt_val (d_isi (T := .tuple) hK rfl t.n_isinstance rfl t.n_tuple (by decide +kernel) (d_var (pv 0))))) (dw_or1 (dt_ne hK room.r.units (d_callB (hK ▸ cd_len) call_len_seq rfl t.n_len (by decide +kernel) (da_cons (d_var (pv 0)) da_nil)) d_int))))
    (ds_one (ds_ret d_bl))
    ds_nil)
    (ds_cons (ds_asg (d_var (pv 0)) (dg_tup hK rfl (dgs_cons (dg_name (pg_name (i := 1) sc.nd rfl (by first | exact Or.inl rfl | exact Or.inr rfl))) (dgs_cons (dg_name (pg_name (i := 2) sc.nd rfl (by first | exact Or.inl rfl | exact Or.inr rfl))) (dgs_cons (dg_name (pg_name (i := 3) sc.nd rfl (by first | exact Or.inl rfl | exact Or.inr rfl))) dgs_nil)))))
    (ds_one (ds_ret (d_and (d_call (ok_is_plain_integer t) hK (room.mono (by decide)) rfl t.m_is_plain_integer t.F_is_plain_integer.kp (b_is_plain_integer t) (da_cons (d_var (pv 1)) da_nil)) (d_and (d_call (ok_is_plain_integer t) hK (room.mono (by decide)) rfl t.m_is_plain_integer t.F_is_plain_integer.kp (b_is_plain_integer t) (da_cons (d_var (pv 2)) da_nil)) (d_and (d_call (ok_is_plain_integer t) hK (room.mono (by decide)) rfl t.m_is_plain_integer t.F_is_plain_integer.kp (b_is_plain_integer t) (da_cons (d_var (pv 3)) da_nil)) (d_one (d_ge (d_var (pv 3)) d_int)))))))))
def T_need_golden : TDS := (dIfS (dtNot (dTest (dCall 1 tf_is_golden (dCons (dVar 0) dNil))))
    (dRaise1 "BadNumber" "thing" (dVar 0))
    dNext)
def tf_need_golden : TF := fun ξ ds Q => tfOf 1 T_need_golden ξ ds Q
theorem ok_need_golden (t : Tx K mg) : FnG P w K mg base (CX P w) 3 t.a_need_golden t.d_need_golden ["thing"] (spD K 1 tf_need_golden) := by
  have sc := sc_need_golden
  exact fng_dataX (N := ["thing"]) (T := T_need_golden) t.F_need_golden sc fun cdv A outer s H E F hK wo' room => have tk' : Takes (cxOf (CX P w) P w K mg base ["thing"] "need_golden" (defScope s_need_golden) t.a_need_golden cdv A outer s H E) (fun c od _ H' => E c od H') := takes_of rfl rfl rfl rfl
    (ds_one (ds_if (dt_not (dt_val (d_call (ok_is_golden t) hK (room.mono (by decide)) rfl t.m_is_golden t.F_is_golden.kp (b_is_golden t) (da_cons (d_var (pv 0)) da_nil))))
    (ds_one (ds_raise1 rfl tk' wo' hK t.X_BadNumber t.G_BadNumber (bi_BadNumber t) it_BadNumber room.r (d_var (pv 0)) rfl))
    ds_nil))
def T__lowest : TDS := (dSeq (dAsg (dCB gGcd3 (dCons (dVar 0) (dCons (dVar 1) (dCons (dVar 2) dNil)))) (dgName 3))
    (dSeq (dIfS (dTest (dBin gLt (dVar 2) (dC (.int 0))))
    (dAsg (dUn gNeg (dVar 3)) (dgName 3))
    dNext)
    (dRet (dTup (dCons (dBin gDivB (dVar 0) (dVar 3)) (dCons (dBin gDivB (dVar 1) (dVar 3)) (dCons (dBin gDivB (dVar 2) (dVar 3)) dNil)))))))
def tf__lowest : TF := fun _ ds Q => tfOf 4 T__lowest (fun _ => False) ds Q
theorem ok__lowest (t : Tx K mg) : FnG P w K mg base CX0 1 t.a__lowest t.d__lowest ["a", "b", "d"] (spD K 3 tf__lowest) := by
  have sc := sc__lowest
  exact fng_data (N := ["a", "b", "d", "common"]) (T := T__lowest) t.F__lowest sc fun cdv A outer s H E F hK hF room =>
    (ds_cons (ds_set (i := 3) sc.nd rfl (by first | exact Or.inl rfl | exact Or.inr rfl) (d_callBf cd_gcd3 cr_gcd3 rfl t.i_gcd (da_cons (d_var (pv 0)) (da_cons (d_var (pv 1)) (da_cons (d_var (pv 2)) da_nil)))))
    (ds_cons (ds_if (dt_lt (d_var (pv 2)) d_int)
    (ds_one (ds_set (i := 3) sc.nd rfl (by first | exact Or.inl rfl | exact Or.inr rfl) (d_neg (d_var (pv 3)))))
    ds_nil)
    (ds_one (ds_ret (d_tup (da_cons (d_divB (d_var (pv 0)) (d_var (pv 3))) (da_cons (d_divB (d_var (pv 1)) (d_var (pv 3))) (da_cons (d_divB (d_var (pv 2)) (d_var (pv 3))) da_nil))))))))
def T_reduced : TDS := (dSeq (dDrop (dCallX 1 tf_need_golden (dCons (dVar 0) dNil)))
    (dSeq (dAsg (dVar 0) (dgTup 3 (dgCons (dgName 1) (dgCons (dgName 2) (dgCons (dgName 3) dgNil)))))
    (dRet (dCall 3 tf__lowest (dCons (dVar 1) (dCons (dVar 2) (dCons (dVar 3) dNil)))))))
def tf_reduced : TF := fun ξ ds Q => tfOf 4 T_reduced ξ ds Q
theorem ok_reduced (t : Tx K mg) : FnG P w K mg base (CX P w) 4 t.a_reduced t.d_reduced ["number"] (spD K 1 tf_reduced) := by
  have sc := sc_reduced
  exact fng_dataX (N := ["number", "a", "b", "d"]) (T := T_reduced) t.F_reduced sc fun cdv A outer s H E F hK wo' room => have tk' : Takes (cxOf (CX P w) P w K mg base ["number", "a", "b", "d"] "reduced" (defScope s_reduced) t.a_reduced cdv A outer s H E) (fun c od _ H' => E c od H') := takes_of rfl rfl rfl rfl
    (ds_cons (ds_expr (d_callX (ok_need_golden t) tk' wo' hK (room.mono (by decide)) rfl t.m_need_golden t.F_need_golden.kp (b_need_golden t) (da_cons (d_var (pv 0)) da_nil)))
    (ds_cons (ds_asg (d_var (pv 0)) (dg_tup hK rfl (dgs_cons (dg_name (pg_name (i := 1) sc.nd rfl (by first | exact Or.inl rfl | exact Or.inr rfl))) (dgs_cons (dg_name (pg_name (i := 2) sc.nd rfl (by first | exact Or.inl rfl | exact Or.inr rfl))) (dgs_cons (dg_name (pg_name (i := 3) sc.nd rfl (by first | exact Or.inl rfl | exact Or.inr rfl))) dgs_nil)))))
    (ds_one (ds_ret (d_call (ok__lowest t) hK (room.mono (by decide)) rfl t.m__lowest t.F__lowest.kp (b__lowest t) (da_cons (d_var (pv 1)) (da_cons (d_var (pv 2)) (da_cons (d_var (pv 3)) da_nil))))))))
def T_minus : TDS := (dSeq (dDrop (dCallX 1 tf_need_golden (dCons (dVar 0) dNil)))
    (dSeq (dDrop (dCallX 1 tf_need_golden (dCons (dVar 1) dNil)))
    (dSeq (dAsg (dVar 0) (dgTup 3 (dgCons (dgName 2) (dgCons (dgName 3) (dgCons (dgName 4) dgNil)))))
    (dSeq (dAsg (dVar 1) (dgTup 3 (dgCons (dgName 5) (dgCons (dgName 6) (dgCons (dgName 7) dgNil)))))
    (dRet (dCall 3 tf__lowest (dCons (dBin gSub (dBin gMulA (dVar 2) (dVar 7)) (dBin gMulA (dVar 5) (dVar 4))) (dCons (dBin gSub (dBin gMulA (dVar 3) (dVar 7)) (dBin gMulA (dVar 6) (dVar 4))) (dCons (dBin gMulA (dVar 4) (dVar 7)) dNil)))))))))
def tf_minus : TF := fun ξ ds Q => tfOf 8 T_minus ξ ds Q
theorem ok_minus (t : Tx K mg) : FnG P w K mg base (CX P w) 4 t.a_minus t.d_minus ["one", "other"] (spD K 2 tf_minus) := by
  have sc := sc_minus
  exact fng_dataX (N := ["one", "other", "a", "b", "d", "c", "e", "f"]) (T := T_minus) t.F_minus sc fun cdv A outer s H E F hK wo' room => have tk' : Takes (cxOf (CX P w) P w K mg base ["one", "other", "a", "b", "d", "c", "e", "f"] "minus" (defScope s_minus) t.a_minus cdv A outer s H E) (fun c od _ H' => E c od H') := takes_of rfl rfl rfl rfl
    (ds_cons (ds_expr (d_callX (ok_need_golden t) tk' wo' hK (room.mono (by decide)) rfl t.m_need_golden t.F_need_golden.kp (b_need_golden t) (da_cons (d_var (pv 0)) da_nil)))
    (ds_cons (ds_expr (d_callX (ok_need_golden t) tk' wo' hK (room.mono (by decide)) rfl t.m_need_golden t.F_need_golden.kp (b_need_golden t) (da_cons (d_var (pv 1)) da_nil)))
    (ds_cons (ds_asg (d_var (pv 0)) (dg_tup hK rfl (dgs_cons (dg_name (pg_name (i := 2) sc.nd rfl (by first | exact Or.inl rfl | exact Or.inr rfl))) (dgs_cons (dg_name (pg_name (i := 3) sc.nd rfl (by first | exact Or.inl rfl | exact Or.inr rfl))) (dgs_cons (dg_name (pg_name (i := 4) sc.nd rfl (by first | exact Or.inl rfl | exact Or.inr rfl))) dgs_nil)))))
    (ds_cons (ds_asg (d_var (pv 1)) (dg_tup hK rfl (dgs_cons (dg_name (pg_name (i := 5) sc.nd rfl (by first | exact Or.inl rfl | exact Or.inr rfl))) (dgs_cons (dg_name (pg_name (i := 6) sc.nd rfl (by first | exact Or.inl rfl | exact Or.inr rfl))) (dgs_cons (dg_name (pg_name (i := 7) sc.nd rfl (by first | exact Or.inl rfl | exact Or.inr rfl))) dgs_nil)))))
    (ds_one (ds_ret (d_call (ok__lowest t) hK (room.mono (by decide)) rfl t.m__lowest t.F__lowest.kp (b__lowest t) (da_cons (d_sub (d_mulA (d_var (pv 2)) (d_var (pv 7))) (d_mulA (d_var (pv 5)) (d_var (pv 4)))) (da_cons (d_sub (d_mulA (d_var (pv 3)) (d_var (pv 7))) (d_mulA (d_var (pv 6)) (d_var (pv 4)))) (da_cons (d_mulA (d_var (pv 4)) (d_var (pv 7))) da_nil))))))))))
def T_times : TDS := (dSeq (dDrop (dCallX 1 tf_need_golden (dCons (dVar 0) dNil)))
    (dSeq (dDrop (dCallX 1 tf_need_golden (dCons (dVar 1) dNil)))
    (dSeq (dAsg (dVar 0) (dgTup 3 (dgCons (dgName 2) (dgCons (dgName 3) (dgCons (dgName 4) dgNil)))))
    (dSeq (dAsg (dVar 1) (dgTup 3 (dgCons (dgName 5) (dgCons (dgName 6) (dgCons (dgName 7) dgNil)))))
    (dRet (dCall 3 tf__lowest (dCons (dBin gAddA (dBin gMulA (dVar 2) (dVar 5)) (dBin gMulA (dVar 3) (dVar 6))) (dCons (dBin gAddA (dBin gAddA (dBin gMulA (dVar 2) (dVar 6)) (dBin gMulA (dVar 3) (dVar 5))) (dBin gMulA (dVar 3) (dVar 6))) (dCons (dBin gMulA (dVar 4) (dVar 7)) dNil)))))))))
def tf_times : TF := fun ξ ds Q => tfOf 8 T_times ξ ds Q
theorem ok_times (t : Tx K mg) : FnG P w K mg base (CX P w) 4 t.a_times t.d_times ["one", "other"] (spD K 2 tf_times) := by
  have sc := sc_times
  exact fng_dataX (N := ["one", "other", "a", "b", "d", "c", "e", "f"]) (T := T_times) t.F_times sc fun cdv A outer s H E F hK wo' room => have tk' : Takes (cxOf (CX P w) P w K mg base ["one", "other", "a", "b", "d", "c", "e", "f"] "times" (defScope s_times) t.a_times cdv A outer s H E) (fun c od _ H' => E c od H') := takes_of rfl rfl rfl rfl
    (ds_cons (ds_expr (d_callX (ok_need_golden t) tk' wo' hK (room.mono (by decide)) rfl t.m_need_golden t.F_need_golden.kp (b_need_golden t) (da_cons (d_var (pv 0)) da_nil)))
    (ds_cons (ds_expr (d_callX (ok_need_golden t) tk' wo' hK (room.mono (by decide)) rfl t.m_need_golden t.F_need_golden.kp (b_need_golden t) (da_cons (d_var (pv 1)) da_nil)))
    (ds_cons (ds_asg (d_var (pv 0)) (dg_tup hK rfl (dgs_cons (dg_name (pg_name (i := 2) sc.nd rfl (by first | exact Or.inl rfl | exact Or.inr rfl))) (dgs_cons (dg_name (pg_name (i := 3) sc.nd rfl (by first | exact Or.inl rfl | exact Or.inr rfl))) (dgs_cons (dg_name (pg_name (i := 4) sc.nd rfl (by first | exact Or.inl rfl | exact Or.inr rfl))) dgs_nil)))))
    (ds_cons (ds_asg (d_var (pv 1)) (dg_tup hK rfl (dgs_cons (dg_name (pg_name (i := 5) sc.nd rfl (by first | exact Or.inl rfl | exact Or.inr rfl))) (dgs_cons (dg_name (pg_name (i := 6) sc.nd rfl (by first | exact Or.inl rfl | exact Or.inr rfl))) (dgs_cons (dg_name (pg_name (i := 7) sc.nd rfl (by first | exact Or.inl rfl | exact Or.inr rfl))) dgs_nil)))))
    (ds_one (ds_ret (d_call (ok__lowest t) hK (room.mono (by decide)) rfl t.m__lowest t.F__lowest.kp (b__lowest t) (da_cons (d_addA hK (d_mulA (d_var (pv 2)) (d_var (pv 5))) (d_mulA (d_var (pv 3)) (d_var (pv 6)))) (da_cons (d_addA hK (d_addA hK (d_mulA (d_var (pv 2)) (d_var (pv 6))) (d_mulA (d_var (pv 3)) (d_var (pv 5)))) (d_mulA (d_var (pv 3)) (d_var (pv 6)))) (da_cons (d_mulA (d_var (pv 4)) (d_var (pv 7))) da_nil))))))))))
def T_quotient : TDS := (dSeq (dDrop (dCallX 1 tf_need_golden (dCons (dVar 0) dNil)))
    (dSeq (dDrop (dCallX 1 tf_need_golden (dCons (dVar 1) dNil)))
    (dSeq (dAsg (dVar 0) (dgTup 3 (dgCons (dgName 2) (dgCons (dgName 3) (dgCons (dgName 4) dgNil)))))
    (dSeq (dAsg (dVar 1) (dgTup 3 (dgCons (dgName 5) (dgCons (dgName 6) (dgCons (dgName 7) dgNil)))))
    (dSeq (dIfS (dtAnd (dTest (dBin gEq (dVar 5) (dC (.int 0)))) (dTest (dBin gEq (dVar 6) (dC (.int 0)))))
    (dRaise0 "DividedByZero")
    dNext)
    (dSeq (dAsg (dBin gSub (dBin gAddA (dBin gMulA (dVar 5) (dVar 5)) (dBin gMulA (dVar 5) (dVar 6))) (dBin gMulA (dVar 6) (dVar 6))) (dgName 8))
    (dRet (dCall 3 tf__lowest (dCons (dBin gMulA (dBin gSub (dBin gMulA (dVar 2) (dBin gAddA (dVar 5) (dVar 6))) (dBin gMulA (dVar 3) (dVar 6))) (dVar 7)) (dCons (dBin gMulA (dBin gSub (dBin gMulA (dVar 3) (dVar 5)) (dBin gMulA (dVar 2) (dVar 6))) (dVar 7)) (dCons (dBin gMulA (dVar 4) (dVar 8)) dNil)))))))))))
def tf_quotient : TF := fun ξ ds Q => tfOf 9 T_quotient ξ ds Q
theorem ok_quotient (t : Tx K mg) : FnG P w K mg base (CX P w) 4 t.a_quotient t.d_quotient ["one", "other"] (spD K 2 tf_quotient) := by
  have sc := sc_quotient
  exact fng_dataX (N := ["one", "other", "a", "b", "d", "c", "e", "f", "norm"]) (T := T_quotient) t.F_quotient sc fun cdv A outer s H E F hK wo' room => have tk' : Takes (cxOf (CX P w) P w K mg base ["one", "other", "a", "b", "d", "c", "e", "f", "norm"] "quotient" (defScope s_quotient) t.a_quotient cdv A outer s H E) (fun c od _ H' => E c od H') := takes_of rfl rfl rfl rfl
    (ds_cons (ds_expr (d_callX (ok_need_golden t) tk' wo' hK (room.mono (by decide)) rfl t.m_need_golden t.F_need_golden.kp (b_need_golden t) (da_cons (d_var (pv 0)) da_nil)))
    (ds_cons (ds_expr (d_callX (ok_need_golden t) tk' wo' hK (room.mono (by decide)) rfl t.m_need_golden t.F_need_golden.kp (b_need_golden t) (da_cons (d_var (pv 1)) da_nil)))
    (ds_cons (ds_asg (d_var (pv 0)) (dg_tup hK rfl (dgs_cons (dg_name (pg_name (i := 2) sc.nd rfl (by first | exact Or.inl rfl | exact Or.inr rfl))) (dgs_cons (dg_name (pg_name (i := 3) sc.nd rfl (by first | exact Or.inl rfl | exact Or.inr rfl))) (dgs_cons (dg_name (pg_name (i := 4) sc.nd rfl (by first | exact Or.inl rfl | exact Or.inr rfl))) dgs_nil)))))
    (ds_cons (ds_asg (d_var (pv 1)) (dg_tup hK rfl (dgs_cons (dg_name (pg_name (i := 5) sc.nd rfl (by first | exact Or.inl rfl | exact Or.inr rfl))) (dgs_cons (dg_name (pg_name (i := 6) sc.nd rfl (by first | exact Or.inl rfl | exact Or.inr rfl))) (dgs_cons (dg_name (pg_name (i := 7) sc.nd rfl (by first | exact Or.inl rfl | exact Or.inr rfl))) dgs_nil)))))
    (ds_cons (ds_if (PW.pt (dw_and (dt_eq hK room.r.units (d_var (pv 5)) d_int) (dw_and1 (dt_eq hK room.r.units (d_var (pv 6)) d_int))))
    (ds_one (ds_raise0 rfl tk' wo' hK PySem.F.excBase_Exception t.C_DividedByZero.q t.C_DividedByZero.g (hK ▸ t.C_DividedByZero.at_) t.C_DividedByZero.kp (raises_own t.C_DividedByZero.sub t.C_DividedByZero.ty) rfl))
    ds_nil)
    (ds_cons (ds_set (i := 8) sc.nd rfl (by first | exact Or.inl rfl | exact Or.inr rfl) (d_sub (d_addA hK (d_mulA (d_var (pv 5)) (d_var (pv 5))) (d_mulA (d_var (pv 5)) (d_var (pv 6)))) (d_mulA (d_var (pv 6)) (d_var (pv 6)))))
    (ds_one (ds_ret (d_call (ok__lowest t) hK (room.mono (by decide)) rfl t.m__lowest t.F__lowest.kp (b__lowest t) (da_cons (d_mulA (d_sub (d_mulA (d_var (pv 2)) (d_addA hK (d_var (pv 5)) (d_var (pv 6)))) (d_mulA (d_var (pv 3)) (d_var (pv 6)))) (d_var (pv 7))) (da_cons (d_mulA (d_sub (d_mulA (d_var (pv 3)) (d_var (pv 5))) (d_mulA (d_var (pv 2)) (d_var (pv 6)))) (d_var (pv 7))) (da_cons (d_mulA (d_var (pv 4)) (d_var (pv 8))) da_nil))))))))))))
def T_sign_of_parts : TDS := (dSeq (dAsg (dBin gAddA (dBin gMulA (dC (.int 2)) (dVar 0)) (dVar 1)) (dgName 2))
    (dSeq (dIfS (dtAnd (dTest (dBin gGe (dVar 2) (dC (.int 0)))) (dTest (dBin gGe (dVar 1) (dC (.int 0)))))
    (dRet (dIf (dtOr (dTest (dBin gGt (dVar 2) (dC (.int 0)))) (dTest (dBin gGt (dVar 1) (dC (.int 0))))) (dC (.int 1)) (dC (.int 0))))
    dNext)
    (dSeq (dIfS (dtAnd (dTest (dBin gLe (dVar 2) (dC (.int 0)))) (dTest (dBin gLe (dVar 1) (dC (.int 0)))))
    (dRet (dUn gNeg (dC (.int 1))))
    dNext)
    (dSeq (dAsg (dBin gGt (dBin gMulA (dVar 2) (dVar 2)) (dBin gMulA (dBin gMulA (dC (.int 5)) (dVar 1)) (dVar 1))) (dgName 3))
    (dRet (dIf (dTest (dBin gEq (dVar 3) (dBin gGt (dVar 2) (dC (.int 0))))) (dC (.int 1)) (dUn gNeg (dC (.int 1)))))))))
def tf_sign_of_parts : TF := fun _ ds Q => tfOf 4 T_sign_of_parts (fun _ => False) ds Q
theorem ok_sign_of_parts (t : Tx K mg) : FnG P w K mg base CX0 1 t.a_sign_of_parts t.d_sign_of_parts ["a", "b"] (spD K 2 tf_sign_of_parts) := by
  have sc := sc_sign_of_parts
  exact fng_data (N := ["a", "b", "front", "does_front_win"]) (T := T_sign_of_parts) t.F_sign_of_parts sc fun cdv A outer s H E F hK hF room =>
    (ds_cons (ds_set (i := 2) sc.nd rfl (by first | exact Or.inl rfl | exact Or.inr rfl) (d_addA hK (d_mulA d_int (d_var (pv 0))) (d_var (pv 1))))
    (ds_cons (ds_if (PW.pt (dw_and (dt_ge (d_var (pv 2)) d_int) (dw_and1 (dt_ge (d_var (pv 1)) d_int))))
    (ds_one (ds_ret (d_if (PW.pt (dw_or (dt_gt (d_var (pv 2)) d_int) (dw_or1 (dt_gt (d_var (pv 1)) d_int)))) d_int d_int)))
    ds_nil)
    (ds_cons (ds_if (PW.pt (dw_and (dt_le (d_var (pv 2)) d_int) (dw_and1 (dt_le (d_var (pv 1)) d_int))))
    (ds_one (ds_ret (d_neg d_int)))
    ds_nil)
    (ds_cons (ds_set (i := 3) sc.nd rfl (by first | exact Or.inl rfl | exact Or.inr rfl) (d_gt (d_mulA (d_var (pv 2)) (d_var (pv 2))) (d_mulA (d_mulA d_int (d_var (pv 1))) (d_var (pv 1)))))
    (ds_one (ds_ret (d_if (dt_eq hK room.r.units (d_var (pv 3)) (d_gt (d_var (pv 2)) d_int)) d_int (d_neg d_int))))))))
def T_sign : TDS := (dSeq (dDrop (dCallX 1 tf_need_golden (dCons (dVar 0) dNil)))
    (dRet (dCall 2 tf_sign_of_parts (dCons (dBin gIx (dVar 0) (dC (.int 0))) (dCons (dBin gIx (dVar 0) (dC (.int 1))) dNil)))))
def tf_sign : TF := fun ξ ds Q => tfOf 1 T_sign ξ ds Q
theorem ok_sign (t : Tx K mg) : FnG P w K mg base (CX P w) 4 t.a_sign t.d_sign ["number"] (spD K 1 tf_sign) := by
  have sc := sc_sign
  exact fng_dataX (N := ["number"]) (T := T_sign) t.F_sign sc fun cdv A outer s H E F hK wo' room => have tk' : Takes (cxOf (CX P w) P w K mg base ["number"] "sign" (defScope s_sign) t.a_sign cdv A outer s H E) (fun c od _ H' => E c od H') := takes_of rfl rfl rfl rfl
    (ds_cons (ds_expr (d_callX (ok_need_golden t) tk' wo' hK (room.mono (by decide)) rfl t.m_need_golden t.F_need_golden.kp (b_need_golden t) (da_cons (d_var (pv 0)) da_nil)))
    (ds_one (ds_ret (d_call (ok_sign_of_parts t) hK (room.mono (by decide)) rfl t.m_sign_of_parts t.F_sign_of_parts.kp (b_sign_of_parts t) (da_cons (d_ix hK (d_var (pv 0)) d_int (fun _ _ => rfl)) (da_cons (d_ix hK (d_var (pv 0)) d_int (fun _ _ => rfl)) da_nil))))))
def T_integer_below : TDS := (dSeq (dDrop (dCallX 1 tf_need_golden (dCons (dVar 0) dNil)))
    (dSeq (dAsg (dVar 0) (dgTup 3 (dgCons (dgName 1) (dgCons (dgName 2) (dgCons (dgName 3) dgNil)))))
    (dSeq (dAsg (dCB gIsqrt (dCons (dBin gMulA (dBin gMulA (dC (.int 5)) (dVar 2)) (dVar 2)) dNil)) (dgName 4))
    (dSeq (dIfS (dTest (dBin gLt (dVar 2) (dC (.int 0))))
    (dAsg (dBin gSub (dUn gNeg (dVar 4)) (dC (.int 1))) (dgName 4))
    dNext)
    (dRet (dBin gDivB (dBin gAddA (dBin gAddA (dBin gMulA (dC (.int 2)) (dVar 1)) (dVar 2)) (dVar 4)) (dBin gMulA (dC (.int 2)) (dVar 3))))))))
def tf_integer_below : TF := fun ξ ds Q => tfOf 5 T_integer_below ξ ds Q
theorem ok_integer_below (t : Tx K mg) : FnG P w K mg base (CX P w) 4 t.a_integer_below t.d_integer_below ["number"] (spD K 1 tf_integer_below) := by
  have sc := sc_integer_below
  exact fng_dataX (N := ["number", "a", "b", "d", "root"]) (T := T_integer_below) t.F_integer_below sc fun cdv A outer s H E F hK wo' room => have tk' : Takes (cxOf (CX P w) P w K mg base ["number", "a", "b", "d", "root"] "integer_below" (defScope s_integer_below) t.a_integer_below cdv A outer s H E) (fun c od _ H' => E c od H') := takes_of rfl rfl rfl rfl
    (ds_cons (ds_expr (d_callX (ok_need_golden t) tk' wo' hK (room.mono (by decide)) rfl t.m_need_golden t.F_need_golden.kp (b_need_golden t) (da_cons (d_var (pv 0)) da_nil)))
    (ds_cons (ds_asg (d_var (pv 0)) (dg_tup hK rfl (dgs_cons (dg_name (pg_name (i := 1) sc.nd rfl (by first | exact Or.inl rfl | exact Or.inr rfl))) (dgs_cons (dg_name (pg_name (i := 2) sc.nd rfl (by first | exact Or.inl rfl | exact Or.inr rfl))) (dgs_cons (dg_name (pg_name (i := 3) sc.nd rfl (by first | exact Or.inl rfl | exact Or.inr rfl))) dgs_nil)))))
    (ds_cons (ds_set (i := 4) sc.nd rfl (by first | exact Or.inl rfl | exact Or.inr rfl) (d_callBf cd_isqrt cr_isqrt rfl t.i_isqrt (da_cons (d_mulA (d_mulA d_int (d_var (pv 2))) (d_var (pv 2))) da_nil)))
    (ds_cons (ds_if (dt_lt (d_var (pv 2)) d_int)
    (ds_one (ds_set (i := 4) sc.nd rfl (by first | exact Or.inl rfl | exact Or.inr rfl) (d_sub (d_neg (d_var (pv 4))) d_int)))
    ds_nil)
    (ds_one (ds_ret (d_divB (d_addA hK (d_addA hK (d_mulA d_int (d_var (pv 1))) (d_var (pv 2))) (d_var (pv 4))) (d_mulA d_int (d_var (pv 3))))))))))
def T_integer_above : TDS := (dSeq (dDrop (dCallX 1 tf_need_golden (dCons (dVar 0) dNil)))
    (dSeq (dAsg (dVar 0) (dgTup 3 (dgCons (dgName 1) (dgCons (dgName 2) (dgCons (dgName 3) dgNil)))))
    (dRet (dUn gNeg (dCallX 1 tf_integer_below (dCons (dTup (dCons (dUn gNeg (dVar 1)) (dCons (dUn gNeg (dVar 2)) (dCons (dVar 3) dNil)))) dNil))))))
def tf_integer_above : TF := fun ξ ds Q => tfOf 4 T_integer_above ξ ds Q
theorem ok_integer_above (t : Tx K mg) : FnG P w K mg base (CX P w) 5 t.a_integer_above t.d_integer_above ["number"] (spD K 1 tf_integer_above) := by
  have sc := sc_integer_above
  exact fng_dataX (N := ["number", "a", "b", "d"]) (T := T_integer_above) t.F_integer_above sc fun cdv A outer s H E F hK wo' room => have tk' : Takes (cxOf (CX P w) P w K mg base ["number", "a", "b", "d"] "integer_above" (defScope s_integer_above) t.a_integer_above cdv A outer s H E) (fun c od _ H' => E c od H') := takes_of rfl rfl rfl rfl
    (ds_cons (ds_expr (d_callX (ok_need_golden t) tk' wo' hK (room.mono (by decide)) rfl t.m_need_golden t.F_need_golden.kp (b_need_golden t) (da_cons (d_var (pv 0)) da_nil)))
    (ds_cons (ds_asg (d_var (pv 0)) (dg_tup hK rfl (dgs_cons (dg_name (pg_name (i := 1) sc.nd rfl (by first | exact Or.inl rfl | exact Or.inr rfl))) (dgs_cons (dg_name (pg_name (i := 2) sc.nd rfl (by first | exact Or.inl rfl | exact Or.inr rfl))) (dgs_cons (dg_name (pg_name (i := 3) sc.nd rfl (by first | exact Or.inl rfl | exact Or.inr rfl))) dgs_nil)))))
    (ds_one (ds_ret (d_neg (d_callX (ok_integer_below t) tk' wo' hK (room.mono (by decide)) rfl t.m_integer_below t.F_integer_below.kp (b_integer_below t) (da_cons (d_tup (da_cons (d_neg (d_var (pv 1))) (da_cons (d_neg (d_var (pv 2))) (da_cons (d_var (pv 3)) da_nil)))) da_nil)))))))
def T_is_whole : TDS := (dSeq (dDrop (dCallX 1 tf_need_golden (dCons (dVar 0) dNil)))
    (dSeq (dAsg (dVar 0) (dgTup 3 (dgCons (dgName 1) (dgCons (dgName 2) (dgCons (dgName 3) dgNil)))))
    (dRet (dAnd (dBin gEq (dBin gMod (dVar 1) (dVar 3)) (dC (.int 0))) (dBin gEq (dBin gMod (dVar 2) (dVar 3)) (dC (.int 0)))))))
def tf_is_whole : TF := fun ξ ds Q => tfOf 4 T_is_whole ξ ds Q
theorem ok_is_whole (t : Tx K mg) : FnG P w K mg base (CX P w) 4 t.a_is_whole t.d_is_whole ["number"] (spD K 1 tf_is_whole) := by
  have sc := sc_is_whole
  exact fng_dataX (N := ["number", "a", "b", "d"]) (T := T_is_whole) t.F_is_whole sc fun cdv A outer s H E F hK wo' room => have tk' : Takes (cxOf (CX P w) P w K mg base ["number", "a", "b", "d"] "is_whole" (defScope s_is_whole) t.a_is_whole cdv A outer s H E) (fun c od _ H' => E c od H') := takes_of rfl rfl rfl rfl
    (ds_cons (ds_expr (d_callX (ok_need_golden t) tk' wo' hK (room.mono (by decide)) rfl t.m_need_golden t.F_need_golden.kp (b_need_golden t) (da_cons (d_var (pv 0)) da_nil)))
    (ds_cons (ds_asg (d_var (pv 0)) (dg_tup hK rfl (dgs_cons (dg_name (pg_name (i := 1) sc.nd rfl (by first | exact Or.inl rfl | exact Or.inr rfl))) (dgs_cons (dg_name (pg_name (i := 2) sc.nd rfl (by first | exact Or.inl rfl | exact Or.inr rfl))) (dgs_cons (dg_name (pg_name (i := 3) sc.nd rfl (by first | exact Or.inl rfl | exact Or.inr rfl))) dgs_nil)))))
    (ds_one (ds_ret (d_and (d_eq hK room.r.units (d_mod (d_var (pv 1)) (d_var (pv 3))) d_int) (d_one (d_eq hK room.r.units (d_mod (d_var (pv 2)) (d_var (pv 3))) d_int)))))))
def T_conjugate : TDS := (dSeq (dDrop (dCallX 1 tf_need_golden (dCons (dVar 0) dNil)))
    (dSeq (dAsg (dVar 0) (dgTup 3 (dgCons (dgName 1) (dgCons (dgName 2) (dgCons (dgName 3) dgNil)))))
    (dRet (dCall 3 tf__lowest (dCons (dBin gAddA (dVar 1) (dVar 2)) (dCons (dUn gNeg (dVar 2)) (dCons (dVar 3) dNil)))))))
def tf_conjugate : TF := fun ξ ds Q => tfOf 4 T_conjugate ξ ds Q
theorem ok_conjugate (t : Tx K mg) : FnG P w K mg base (CX P w) 4 t.a_conjugate t.d_conjugate ["number"] (spD K 1 tf_conjugate) := by
  have sc := sc_conjugate
  exact fng_dataX (N := ["number", "a", "b", "d"]) (T := T_conjugate) t.F_conjugate sc fun cdv A outer s H E F hK wo' room => have tk' : Takes (cxOf (CX P w) P w K mg base ["number", "a", "b", "d"] "conjugate" (defScope s_conjugate) t.a_conjugate cdv A outer s H E) (fun c od _ H' => E c od H') := takes_of rfl rfl rfl rfl
    (ds_cons (ds_expr (d_callX (ok_need_golden t) tk' wo' hK (room.mono (by decide)) rfl t.m_need_golden t.F_need_golden.kp (b_need_golden t) (da_cons (d_var (pv 0)) da_nil)))
    (ds_cons (ds_asg (d_var (pv 0)) (dg_tup hK rfl (dgs_cons (dg_name (pg_name (i := 1) sc.nd rfl (by first | exact Or.inl rfl | exact Or.inr rfl))) (dgs_cons (dg_name (pg_name (i := 2) sc.nd rfl (by first | exact Or.inl rfl | exact Or.inr rfl))) (dgs_cons (dg_name (pg_name (i := 3) sc.nd rfl (by first | exact Or.inl rfl | exact Or.inr rfl))) dgs_nil)))))
    (ds_one (ds_ret (d_call (ok__lowest t) hK (room.mono (by decide)) rfl t.m__lowest t.F__lowest.kp (b__lowest t) (da_cons (d_addA hK (d_var (pv 1)) (d_var (pv 2))) (da_cons (d_neg (d_var (pv 2))) (da_cons (d_var (pv 3)) da_nil))))))))
def T_power : TDS := (dSeq (dIfS (dtOr (dtNot (dTest (dCall 1 tf_is_plain_integer (dCons (dVar 0) dNil)))) (dTest (dBin gGt (dCB gAbs (dCons (dVar 0) dNil)) (dC (.int 2000)))))
    (dRaise1 "BadPower" "thing" (dVar 0))
    dNext)
    (dSeq (dAsg (dC (.int 1)) (dgName 1))
    (dSeq (dAsg (dC (.int 0)) (dgName 2))
    (dSeq (dForR (dCons (dCB gAbs (dCons (dVar 0) dNil)) dNil) (dgName 3)
    (dIfS (dTest (dBin gGt (dVar 0) (dC (.int 0))))
    (dPar 1 2 (dCons (dVar 2) (dCons (dBin gAddA (dVar 1) (dVar 2)) dNil)))
    (dPar 1 2 (dCons (dBin gSub (dVar 2) (dVar 1)) (dCons (dVar 1) dNil)))))
    (dRet (dTup (dCons (dVar 1) (dCons (dVar 2) (dCons (dC (.int 1)) dNil)))))))))
def tf_power : TF := fun ξ ds Q => tfOf 4 T_power ξ ds Q
theorem ok_power (t : Tx K mg) : FnG P w K mg base (CX P w) 2 t.a_power t.d_power ["n"] (spD K 1 tf_power) := by
  have sc := sc_power
  exact fng_dataX (N := ["n", "a", "b", "_"]) (T := T_power) t.F_power sc fun cdv A outer s H E F hK wo' room => have tk' : Takes (cxOf (CX P w) P w K mg base ["n", "a", "b", "_"] "power" (defScope s_power) t.a_power cdv A outer s H E) (fun c od _ H' => E c od H') := takes_of rfl rfl rfl rfl
    (ds_cons (ds_if (PW.pt (dw_or (dt_not (dt_val (d_call (ok_is_plain_integer t) hK (room.mono (by decide)) rfl t.m_is_plain_integer t.F_is_plain_integer.kp (b_is_plain_integer t) (da_cons (d_var (pv 0)) da_nil)))) (dw_or1 (dt_gt (d_callB cd_abs call_abs rfl t.n_abs (by decide +kernel) (da_cons (d_var (pv 0)) da_nil)) (d_gint rfl t.k_GREATEST_POWER)))))
    (ds_one (ds_raise1 rfl tk' wo' hK t.X_BadPower t.G_BadPower (bi_BadPower t) it_BadPower room.r (d_var (pv 0)) rfl))
    ds_nil)
    (ds_cons (ds_set (i := 1) sc.nd rfl (by first | exact Or.inl rfl | exact Or.inr rfl) d_int)
    (ds_cons (ds_set (i := 2) sc.nd rfl (by first | exact Or.inl rfl | exact Or.inr rfl) d_int)
    (ds_cons (ds_forR1 (passes_of rfl) rfl rfl t.n_range (da_cons (d_callB cd_abs call_abs rfl t.n_abs (by decide +kernel) (da_cons (d_var (pv 0)) da_nil)) da_nil) (dg_name (pg_name (i := 3) sc.nd rfl (by first | exact Or.inl rfl | exact Or.inr rfl)))
    (ds_one (ds_if (dt_gt (d_var (pv 0)) d_int)
    (ds_one (ds_par (i := 1) (j := 2) rfl sc.nd rfl rfl (by decide) rfl rfl (da_cons (d_var (pv 2)) (da_cons (d_addA hK (d_var (pv 1)) (d_var (pv 2))) da_nil))))
    (ds_one (ds_par (i := 1) (j := 2) rfl sc.nd rfl rfl (by decide) rfl rfl (da_cons (d_sub (d_var (pv 2)) (d_var (pv 1))) (da_cons (d_var (pv 1)) da_nil)))))))
    (ds_one (ds_ret (d_tup (da_cons (d_var (pv 1)) (da_cons (d_var (pv 2)) (da_cons d_int da_nil))))))))))
def T_five_by_rule : TDS := (dSeq (dOwn (lLst (dCons (dVar 1) (dCons (dVar 2) dNil))) 3)
    (dSeq (dWhile (dTest (dBin gLt (dLend 3 (dCB gLen (dCons (dVar 3) dNil))) (dC (.int 5))))
    (dApp 3 (dCallX 2 tf_minus (dCons (dCallX 2 tf_times (dCons (dVar 0) (dCons (dOwnIx 3 (dUn gNeg (dC (.int 1)))) dNil))) (dCons (dOwnIx 3 (dUn gNeg (dC (.int 2)))) dNil)))))
    (dFreeze 3 (dRet (dCB gTuple (dCons (dVar 3) dNil))))))
def tf_five_by_rule : TF := fun ξ ds Q => tfOf 4 T_five_by_rule ξ ds Q
theorem ok_five_by_rule (t : Tx K mg) : FnG P w K mg base (CX P w) 5 t.a_five_by_rule t.d_five_by_rule ["factor", "first", "second"] (spD K 3 tf_five_by_rule) := by
  have sc := sc_five_by_rule
  exact fng_dataX (N := ["factor", "first", "second", "five"]) (T := T_five_by_rule) t.F_five_by_rule sc fun cdv A outer s H E F hK wo' room => have tk' : Takes (cxOf (CX P w) P w K mg base ["factor", "first", "second", "five"] "five_by_rule" (defScope s_five_by_rule) t.a_five_by_rule cdv A outer s H E) (fun c od _ H' => E c od H') := takes_of rfl rfl rfl rfl
    (ds_cons (ds_own (i := 3) sc.nd rfl (by first | exact Or.inl rfl | exact Or.inr rfl) (l_lst (da_cons (d_var (pv 1)) (da_cons (d_var (pv 2)) da_nil))))
    (ds_cons (ds_while (passes_of rfl) (dt_lt (d_lend (i := 3) (d_callB (hK ▸ cd_len) call_len_seq rfl t.n_len (by decide +kernel) (da_cons (d_var (pv 3)) da_nil))) d_int)
    (ds_one (ds_app hK (pv 3) (d_callX (ok_minus t) tk' wo' hK (room.mono (by decide)) rfl t.m_minus t.F_minus.kp (b_minus t) (da_cons (d_callX (ok_times t) tk' wo' hK (room.mono (by decide)) rfl t.m_times t.F_times.kp (b_times t) (da_cons (d_var (pv 0)) (da_cons (d_ownIx hK (pv 3) (d_neg d_int) (fun _ _ => rfl)) da_nil))) (da_cons (d_ownIx hK (pv 3) (d_neg d_int) (fun _ _ => rfl)) da_nil))))))
    (dss_freeze (i := 3) (ds_one (ds_ret (d_callTy (hK ▸ cd_tuple) call_tuple_of rfl t.n_tuple (by decide +kernel) (da_cons (d_var (pv 3)) da_nil)))))))
def T_led_round : TDS := (dRet (dCB gTuple (dCons (dLcR (dCons (dC (.int 5)) dNil) 2 dYes (dBin gIx (dVar 0) (dBin gMod (dBin gSub (dVar 2) (dVar 1)) (dC (.int 5))))) dNil)))
def tf_led_round : TF := fun _ ds Q => tfOf 3 T_led_round (fun _ => False) ds Q
theorem ok_led_round (t : Tx K mg) : FnG P w K mg base CX0 1 t.a_led_round t.d_led_round ["five", "many"] (spD K 2 tf_led_round) := by
  have sc := sc_led_round
  exact fng_data (N := ["five", "many", "r"]) (T := T_led_round) t.F_led_round sc fun cdv A outer s H E F hK hF room =>
    (ds_one (ds_ret (d_callTy (hK ▸ cd_tuple) call_tuple_of rfl t.n_tuple (by decide +kernel) (da_cons (d_lcR hK rfl sc.nd rfl t.n_range (da_cons d_int da_nil) (blkOk_by (own := [("r", 2)]) (N := ["five", "many", "r"]) (sc := defScope s_led_round) (by decide +kernel)) rfl (fun _ _ _ _ _ => pg_name (i := 2) sc.nd rfl (by first | exact Or.inl rfl | exact Or.inr rfl)) (fun _ _ _ _ _ => dts_nil) (fun _ _ _ _ _ => (d_ix hK (d_var (pv 0)) (d_mod (d_sub (d_var (pv 2)) (d_var (pv 1))) d_int) (fun _ _ => rfl)))) da_nil))))
def T_with_part : TDS := (dRet (dBin gAddA (dBin gAddA (dSl (dVar 0) dNoPart (dPart (dVar 1))) (dTup (dCons (dVar 2) dNil))) (dSl (dVar 0) (dPart (dBin gAddA (dVar 1) (dC (.int 1)))) dNoPart)))
def tf_with_part : TF := fun _ ds Q => tfOf 3 T_with_part (fun _ => False) ds Q
theorem ok_with_part (t : Tx K mg) : FnG P w K mg base CX0 1 t.a_with_part t.d_with_part ["five", "direction", "part"] (spD K 3 tf_with_part) := by
  have sc := sc_with_part
  exact fng_data (N := ["five", "direction", "part"]) (T := T_with_part) t.F_with_part sc fun cdv A outer s H E F hK hF room =>
    (ds_one (ds_ret (d_addA hK (d_addA hK (d_slice hK (d_var (pv 0)) do_none (do_some (d_var (pv 1)))) (d_tup (da_cons (d_var (pv 2)) da_nil))) (d_slice hK (d_var (pv 0)) (do_some (d_addA hK (d_var (pv 1)) d_int)) do_none))))
def T_stepped : TDS := (dRet (dCall 3 tf_with_part (dCons (dVar 0) (dCons (dVar 1) (dCons (dBin gAddA (dBin gIx (dVar 0) (dVar 1)) (dVar 2)) dNil)))))
def tf_stepped : TF := fun _ ds Q => tfOf 3 T_stepped (fun _ => False) ds Q
theorem ok_stepped (t : Tx K mg) : FnG P w K mg base CX0 2 t.a_stepped t.d_stepped ["row", "direction", "by"] (spD K 3 tf_stepped) := by
  have sc := sc_stepped
  exact fng_data (N := ["row", "direction", "by"]) (T := T_stepped) t.F_stepped sc fun cdv A outer s H E F hK hF room =>
    (ds_one (ds_ret (d_call (ok_with_part t) hK (room.mono (by decide)) rfl t.m_with_part t.F_with_part.kp (b_with_part t) (da_cons (d_var (pv 0)) (da_cons (d_var (pv 1)) (da_cons (d_addA hK (d_ix hK (d_var (pv 0)) (d_var (pv 1)) (fun _ _ => rfl)) (d_var (pv 2))) da_nil))))))
def T_keys_by : TDS := (dRet (dCallX 3 tf_five_by_rule (dCons (dC (.tup [.int (0), .int (-1), .int (1)])) (dCons (dCallX 1 tf_reduced (dCons (dVar 0) dNil)) (dCons (dCallX 1 tf_reduced (dCons (dVar 1) dNil)) dNil)))))
def tf_keys_by : TF := fun ξ ds Q => tfOf 2 T_keys_by ξ ds Q
theorem ok_keys_by (t : Tx K mg) : FnG P w K mg base (CX P w) 6 t.a_keys_by t.d_keys_by ["one", "other"] (spD K 2 tf_keys_by) := by
  have sc := sc_keys_by
  exact fng_dataX (N := ["one", "other"]) (T := T_keys_by) t.F_keys_by sc fun cdv A outer s H E F hK wo' room => have tk' : Takes (cxOf (CX P w) P w K mg base ["one", "other"] "keys_by" (defScope s_keys_by) t.a_keys_by cdv A outer s H E) (fun c od _ H' => E c od H') := takes_of rfl rfl rfl rfl
    (ds_one (ds_ret (d_callX (ok_five_by_rule t) tk' wo' hK (room.mono (by decide)) rfl t.m_five_by_rule t.F_five_by_rule.kp (b_five_by_rule t) (da_cons (d_gtup (ns := [0, -1, 1]) hK rfl t.k_KEY_RULE.1 t.k_KEY_RULE.2) (da_cons (d_callX (ok_reduced t) tk' wo' hK (room.mono (by decide)) rfl t.m_reduced t.F_reduced.kp (b_reduced t) (da_cons (d_var (pv 0)) da_nil)) (da_cons (d_callX (ok_reduced t) tk' wo' hK (room.mono (by decide)) rfl t.m_reduced t.F_reduced.kp (b_reduced t) (da_cons (d_var (pv 1)) da_nil)) da_nil))))))
def T__whole_directions : TDS := (dRet (dCB gTuple (dCons (dLcR (dCons (dC (.int 5)) dNil) 1 (dTest (dCallX 1 tf_is_whole (dCons (dBin gIx (dVar 0) (dVar 1)) dNil))) (dVar 1)) dNil)))
def tf__whole_directions : TF := fun ξ ds Q => tfOf 2 T__whole_directions ξ ds Q
theorem ok__whole_directions (t : Tx K mg) : FnG P w K mg base (CX P w) 5 t.a__whole_directions t.d__whole_directions ["all_keys"] (spD K 1 tf__whole_directions) := by
  have sc := sc__whole_directions
  exact fng_dataX (N := ["all_keys", "r"]) (T := T__whole_directions) t.F__whole_directions sc fun cdv A outer s H E F hK wo' room => have tk' : Takes (cxOf (CX P w) P w K mg base ["all_keys", "r"] "_whole_directions" (defScope s__whole_directions) t.a__whole_directions cdv A outer s H E) (fun c od _ H' => E c od H') := takes_of rfl rfl rfl rfl
    (ds_one (ds_ret (d_callTy (hK ▸ cd_tuple) call_tuple_of rfl t.n_tuple (by decide +kernel) (da_cons (d_lcR hK rfl sc.nd rfl t.n_range (da_cons d_int da_nil) (blkOk_by (own := [("r", 1)]) (N := ["all_keys", "r"]) (sc := defScope s__whole_directions) (by decide +kernel)) rfl (fun _ _ _ _ _ => pg_name (i := 1) sc.nd rfl (by first | exact Or.inl rfl | exact Or.inr rfl)) (fun _ _ _ _ _ => (dts_one (dt_val (d_callX (ok_is_whole t) takes_none5 (wok_none rfl) hK (room.mono (by decide)) rfl t.m_is_whole t.F_is_whole.kp (b_is_whole t) (da_cons (d_ix hK (d_var (pv 0)) (d_var (pv 1)) (fun _ _ => rfl)) da_nil))))) (fun _ _ _ _ _ => (d_var (pv 1)))) da_nil))))
def T__sides_of : TDS := (dSeq (dAsg (dCallX 1 tf__whole_directions (dCons (dVar 0) dNil)) (dgName 1))
    (dSeq (dIfS (dTest (dBin gEq (dCB gLen (dCons (dVar 1) dNil)) (dC (.int 0))))
    (dRet (dTup (dCons (dC (.tup [.int (0), .int (0), .int (0), .int (0), .int (0)])) dNil)))
    dNext)
    (dSeq (dIfS (dTest (dBin gEq (dCB gLen (dCons (dVar 1) dNil)) (dC (.int 1))))
    (dRet (dTup (dCons (dCall 3 tf_stepped (dCons (dC (.tup [.int (0), .int (0), .int (0), .int (0), .int (0)])) (dCons (dBin gIx (dVar 1) (dC (.int 0))) (dCons (dUn gNeg (dC (.int 1))) dNil)))) (dCons (dCall 3 tf_stepped (dCons (dC (.tup [.int (0), .int (0), .int (0), .int (0), .int (0)])) (dCons (dBin gIx (dVar 1) (dC (.int 0))) (dCons (dC (.int 1)) dNil)))) dNil))))
    dNext)
    (dSeq (dOwn (lLst dNil) 2)
    (dSeq (dForR (dCons (dC (.int 5)) dNil) (dgName 3)
    (dSeq (dAsg (dCall 2 tf_led_round (dCons (dC (.tup [.int (1), .int (-1), .int (1), .int (1), .int (-1)])) (dCons (dVar 3) dNil))) (dgName 4))
    (dSeq (dApp 2 (dVar 4))
    (dApp 2 (dCB gTuple (dCons (dLcV 4 5 dYes (dUn gNeg (dVar 5))) dNil))))))
    (dFreeze 2 (dRet (dCB gTuple (dCons (dCB gSort (dCons (dVar 2) dNil)) dNil)))))))))
def tf__sides_of : TF := fun ξ ds Q => tfOf 6 T__sides_of ξ ds Q
theorem ok__sides_of (t : Tx K mg) : FnG P w K mg base (CX P w) 6 t.a__sides_of t.d__sides_of ["all_keys"] (spD K 1 tf__sides_of) := by
  have sc := sc__sides_of
  exact fng_dataX (N := ["all_keys", "whole", "found", "q", "turned_side", "part"]) (T := T__sides_of) t.F__sides_of sc fun cdv A outer s H E F hK wo' room => have tk' : Takes (cxOf (CX P w) P w K mg base ["all_keys", "whole", "found", "q", "turned_side", "part"] "_sides_of" (defScope s__sides_of) t.a__sides_of cdv A outer s H E) (fun c od _ H' => E c od H') := takes_of rfl rfl rfl rfl
    (ds_cons (ds_set (i := 1) sc.nd rfl (by first | exact Or.inl rfl | exact Or.inr rfl) (d_callX (ok__whole_directions t) tk' wo' hK (room.mono (by decide)) rfl t.m__whole_directions t.F__whole_directions.kp (b__whole_directions t) (da_cons (d_var (pv 0)) da_nil)))
    (ds_cons (ds_if (dt_eq hK room.r.units (d_callB (hK ▸ cd_len) call_len_seq rfl t.n_len (by decide +kernel) (da_cons (d_var (pv 1)) da_nil)) d_int)
    (ds_one (ds_ret (d_tup (da_cons (d_gtup (ns := [0, 0, 0, 0, 0]) hK rfl t.k_REGULAR_SIDE.1 t.k_REGULAR_SIDE.2) da_nil))))
    ds_nil)
    (ds_cons (ds_if (dt_eq hK room.r.units (d_callB (hK ▸ cd_len) call_len_seq rfl t.n_len (by decide +kernel) (da_cons (d_var (pv 1)) da_nil)) d_int)
    (ds_one (ds_ret (d_tup (da_cons (d_call (ok_stepped t) hK (room.mono (by decide)) rfl t.m_stepped t.F_stepped.kp (b_stepped t) (da_cons (d_gtup (ns := [0, 0, 0, 0, 0]) hK rfl t.k_REGULAR_SIDE.1 t.k_REGULAR_SIDE.2) (da_cons (d_ix hK (d_var (pv 1)) d_int (fun _ _ => rfl)) (da_cons (d_neg d_int) da_nil)))) (da_cons (d_call (ok_stepped t) hK (room.mono (by decide)) rfl t.m_stepped t.F_stepped.kp (b_stepped t) (da_cons (d_gtup (ns := [0, 0, 0, 0, 0]) hK rfl t.k_REGULAR_SIDE.1 t.k_REGULAR_SIDE.2) (da_cons (d_ix hK (d_var (pv 1)) d_int (fun _ _ => rfl)) (da_cons d_int da_nil)))) da_nil)))))
    ds_nil)
    (ds_cons (ds_own (i := 2) sc.nd rfl (by first | exact Or.inl rfl | exact Or.inr rfl) (l_lst da_nil))
    (ds_cons (ds_forR1 (passes_of rfl) rfl rfl t.n_range (da_cons d_int da_nil) (dg_name (pg_name (i := 3) sc.nd rfl (by first | exact Or.inl rfl | exact Or.inr rfl)))
    (ds_cons (ds_set (i := 4) sc.nd rfl (by first | exact Or.inl rfl | exact Or.inr rfl) (d_call (ok_led_round t) hK (room.mono (by decide)) rfl t.m_led_round t.F_led_round.kp (b_led_round t) (da_cons (d_gtup (ns := [1, -1, 1, 1, -1]) hK rfl t.k_FIRST_SIDE.1 t.k_FIRST_SIDE.2) (da_cons (d_var (pv 3)) da_nil))))
    (ds_cons (ds_app hK (pv 2) (d_var (pv 4)))
    (ds_one (ds_app hK (pv 2) (d_callTy (hK ▸ cd_tuple) call_tuple_of rfl t.n_tuple (by decide +kernel) (da_cons (d_lcV hK rfl sc.nd (pv 4) (blkOk_by (own := [("part", 5)]) (N := ["all_keys", "whole", "found", "q", "turned_side", "part"]) (sc := defScope s__sides_of) (by decide +kernel)) rfl (fun _ _ _ _ _ => pg_name (i := 5) sc.nd rfl (by first | exact Or.inl rfl | exact Or.inr rfl)) (fun _ _ _ _ _ => dts_nil) (fun _ _ _ _ _ => (d_neg (d_var (pv 5))))) da_nil)))))))
    (dss_freeze (i := 2) (ds_one (ds_ret (d_callTy (hK ▸ cd_tuple) call_tuple_of rfl t.n_tuple (by decide +kernel) (da_cons (d_sort hK t.sm (units80 room.r) rfl t.n_sorted (da_cons (d_var (pv 2)) da_nil)) da_nil))))))))))
def T__sides_of_K : TDS := (dSeq (dAsg (dCallX 1 tf__whole_directions (dCons (dVar 0) dNil)) (dgName 1))
    (dSeq (dIfS (dTest (dBin gEq (dCB gLen (dCons (dVar 1) dNil)) (dC (.int 0))))
    (dRet (dTupK (dCons (dC (.tup [.int (0), .int (0), .int (0), .int (0), .int (0)])) dNil)))
    dNext)
    (dSeq (dIfS (dTest (dBin gEq (dCB gLen (dCons (dVar 1) dNil)) (dC (.int 1))))
    (dRet (dTupK (dCons (dCall 3 tf_stepped (dCons (dC (.tup [.int (0), .int (0), .int (0), .int (0), .int (0)])) (dCons (dBin gIx (dVar 1) (dC (.int 0))) (dCons (dUn gNeg (dC (.int 1))) dNil)))) (dCons (dCall 3 tf_stepped (dCons (dC (.tup [.int (0), .int (0), .int (0), .int (0), .int (0)])) (dCons (dBin gIx (dVar 1) (dC (.int 0))) (dCons (dC (.int 1)) dNil)))) dNil))))
    dNext)
    (dSeq (dOwn (lLst dNil) 2)
    (dSeq (dForR (dCons (dC (.int 5)) dNil) (dgName 3)
    (dSeq (dAsg (dCall 2 tf_led_round (dCons (dC (.tup [.int (1), .int (-1), .int (1), .int (1), .int (-1)])) (dCons (dVar 3) dNil))) (dgName 4))
    (dSeq (dApp 2 (dVar 4))
    (dApp 2 (dCB gTuple (dCons (dLcV 4 5 dYes (dUn gNeg (dVar 5))) dNil))))))
    (dFreeze 2 (dRet (dCB gTupleK (dCons (dCB gSort (dCons (dVar 2) dNil)) dNil)))))))))
def tf__sides_of_K : TF := fun ξ ds Q => tfOf 6 T__sides_of_K ξ ds Q
theorem ok__sides_of_K (t : Tx K mg) : FnG P w K mg base (CX P w) 6 t.a__sides_of t.d__sides_of ["all_keys"] (spD K 1 tf__sides_of_K) := by
  have sc := sc__sides_of
  exact fng_dataX (N := ["all_keys", "whole", "found", "q", "turned_side", "part"]) (T := T__sides_of_K) t.F__sides_of sc fun cdv A outer s H E F hK wo' room => have tk' : Takes (cxOf (CX P w) P w K mg base ["all_keys", "whole", "found", "q", "turned_side", "part"] "_sides_of" (defScope s__sides_of) t.a__sides_of cdv A outer s H E) (fun c od _ H' => E c od H') := takes_of rfl rfl rfl rfl
    (ds_cons (ds_set (i := 1) sc.nd rfl (by first | exact Or.inl rfl | exact Or.inr rfl) (d_callX (ok__whole_directions t) tk' wo' hK (room.mono (by decide)) rfl t.m__whole_directions t.F__whole_directions.kp (b__whole_directions t) (da_cons (d_var (pv 0)) da_nil)))
    (ds_cons (ds_if (dt_eq hK room.r.units (d_callB (hK ▸ cd_len) call_len_seq rfl t.n_len (by decide +kernel) (da_cons (d_var (pv 1)) da_nil)) d_int)
    (ds_one (ds_ret (d_tupK (da_cons (d_gtup (ns := [0, 0, 0, 0, 0]) hK rfl t.k_REGULAR_SIDE.1 t.k_REGULAR_SIDE.2) da_nil))))
    ds_nil)
    (ds_cons (ds_if (dt_eq hK room.r.units (d_callB (hK ▸ cd_len) call_len_seq rfl t.n_len (by decide +kernel) (da_cons (d_var (pv 1)) da_nil)) d_int)
    (ds_one (ds_ret (d_tupK (da_cons (d_call (ok_stepped t) hK (room.mono (by decide)) rfl t.m_stepped t.F_stepped.kp (b_stepped t) (da_cons (d_gtup (ns := [0, 0, 0, 0, 0]) hK rfl t.k_REGULAR_SIDE.1 t.k_REGULAR_SIDE.2) (da_cons (d_ix hK (d_var (pv 1)) d_int (fun _ _ => rfl)) (da_cons (d_neg d_int) da_nil)))) (da_cons (d_call (ok_stepped t) hK (room.mono (by decide)) rfl t.m_stepped t.F_stepped.kp (b_stepped t) (da_cons (d_gtup (ns := [0, 0, 0, 0, 0]) hK rfl t.k_REGULAR_SIDE.1 t.k_REGULAR_SIDE.2) (da_cons (d_ix hK (d_var (pv 1)) d_int (fun _ _ => rfl)) (da_cons d_int da_nil)))) da_nil)))))
    ds_nil)
    (ds_cons (ds_own (i := 2) sc.nd rfl (by first | exact Or.inl rfl | exact Or.inr rfl) (l_lst da_nil))
    (ds_cons (ds_forR1 (passes_of rfl) rfl rfl t.n_range (da_cons d_int da_nil) (dg_name (pg_name (i := 3) sc.nd rfl (by first | exact Or.inl rfl | exact Or.inr rfl)))
    (ds_cons (ds_set (i := 4) sc.nd rfl (by first | exact Or.inl rfl | exact Or.inr rfl) (d_call (ok_led_round t) hK (room.mono (by decide)) rfl t.m_led_round t.F_led_round.kp (b_led_round t) (da_cons (d_gtup (ns := [1, -1, 1, 1, -1]) hK rfl t.k_FIRST_SIDE.1 t.k_FIRST_SIDE.2) (da_cons (d_var (pv 3)) da_nil))))
    (ds_cons (ds_app hK (pv 2) (d_var (pv 4)))
    (ds_one (ds_app hK (pv 2) (d_callTy (hK ▸ cd_tuple) call_tuple_of rfl t.n_tuple (by decide +kernel) (da_cons (d_lcV hK rfl sc.nd (pv 4) (blkOk_by (own := [("part", 5)]) (N := ["all_keys", "whole", "found", "q", "turned_side", "part"]) (sc := defScope s__sides_of) (by decide +kernel)) rfl (fun _ _ _ _ _ => pg_name (i := 5) sc.nd rfl (by first | exact Or.inl rfl | exact Or.inr rfl)) (fun _ _ _ _ _ => dts_nil) (fun _ _ _ _ _ => (d_neg (d_var (pv 5))))) da_nil)))))))
    (dss_freeze (i := 2) (ds_one (ds_ret (d_tupOfK hK rfl t.n_tuple (da_cons (d_sort hK t.sm (units80 room.r) rfl t.n_sorted (da_cons (d_var (pv 2)) da_nil)) da_nil))))))))))
def T_Floor_init : TDS := (dSeq (dAsg (dCallX 2 tf_keys_by (dCons (dVar 1) (dCons (dVar 2) dNil))) (dgName 4))
    (dIfS (dtOr (dtNot (dTest (dCall 2 tf_are_plain_integers (dCons (dVar 3) (dCons (dC (.int 5)) dNil))))) (dTest (dBin (gInD true) (dVar 3) (dCallX 1 tf__sides_of_K (dCons (dVar 4) dNil)))))
    (dRaise1 "BadSide" "thing" (dVar 3))
    dNext))
def tf_Floor_init : TF := tfI "Floor" ["all_keys", "side"] [4, 3] 5 T_Floor_init
theorem ok_Floor_init (t : Tx K mg) : FnG P w K mg base (CX P w) 7 t.a_Floor_init t.d_Floor_init ["self", "one", "other", "side"] (spI K "Floor" ["all_keys", "side"] 3 tf_Floor_init) := by
  have sc := sc_Floor_init
  exact fng_init (N := ["self", "one", "other", "side", "all_keys"]) (T := T_Floor_init) (js := [4, 3]) 2 t.F_Floor_init sc t.I_Floor (by decide) (by decide) rfl rfl rfl (fun cdv A outer s H E F hK wo' room => have tk' : Takes (cxOf (CX P w) P w K mg base ["self", "one", "other", "side", "all_keys"] "Floor.__init__" (defScope s_Floor_init) t.a_Floor_init cdv A outer s H E) (fun c od _ H' => E c od H') := takes_of rfl rfl rfl rfl
    (ds_cons (ds_set (i := 4) sc.nd rfl (by first | exact Or.inl rfl | exact Or.inr rfl) (d_callX (ok_keys_by t) tk' wo' hK (room.mono (by decide)) rfl t.m_keys_by t.F_keys_by.kp (b_keys_by t) (da_cons (d_var (pv 1)) (da_cons (d_var (pv 2)) da_nil))))
    (ds_one (ds_if (PW.pt (dw_or (dt_not (dt_val (d_call (ok_are_plain_integers t) hK (room.mono (by decide)) rfl t.m_are_plain_integers t.F_are_plain_integers.kp (b_are_plain_integers t) (da_cons (d_var (pv 3)) (da_cons d_int da_nil))))) (dw_or1 (dt_ninD hK (u65 room.r) (d_var (pv 3)) (d_callX (ok__sides_of_K t) tk' wo' hK (room.mono (by decide)) rfl t.m__sides_of t.F__sides_of.kp (b__sides_of t) (da_cons (d_var (pv 4)) da_nil))))))
    (ds_one (ds_raise1 rfl tk' wo' hK t.X_BadSide t.G_BadSide (bi_BadSide t) it_BadSide room.r (d_var (pv 3)) rfl))
    ds_nil))))
    (fun cdv A outer s H E => (ini_cons (ps_fld (pv 0) (pv 4) rfl) (ini_cons (ps_fld (pv 0) (pv 3) rfl) ini_nil)))
def T_Floor_eq : TDS := (dRet (dAnd (dUn (gIsC "Floor") (dVar 1)) (dAnd (dBin gEq (dUn (gFld "all_keys") (dVar 0)) (dUn (gFld "all_keys") (dVar 1))) (dBin gEq (dUn (gFld "side") (dVar 0)) (dUn (gFld "side") (dVar 1))))))
def tf_Floor_eq : TF := fun _ ds Q => tfOf 2 T_Floor_eq (fun _ => False) ds Q
theorem ok_Floor_eq (t : Tx K mg) : FnG P w K mg base CX0 1 t.a_Floor_eq t.d_Floor_eq ["self", "other"] (spD K 2 tf_Floor_eq) := by
  have sc := sc_Floor_eq
  exact fng_data (N := ["self", "other"]) (T := T_Floor_eq) t.F_Floor_eq sc fun cdv A outer s H E F hK hF room =>
    (ds_one (ds_ret (d_and (d_isC t.I_Floor hK rfl t.n_isinstance rfl t.g_Floor (d_var (pv 1))) (d_and (d_eq hK room.r.units (d_fld hK (d_var (pv 0))) (d_fld hK (d_var (pv 1)))) (d_one (d_eq hK room.r.units (d_fld hK (d_var (pv 0))) (d_fld hK (d_var (pv 1)))))))))
def T_whole_keys : TDS := (dRet (dCallX 1 tf__whole_directions (dCons (dUn (gFld "all_keys") (dVar 0)) dNil)))
def tf_whole_keys : TF := fun ξ ds Q => tfOf 1 T_whole_keys ξ ds Q
theorem ok_whole_keys (t : Tx K mg) : FnG P w K mg base (CX P w) 6 t.a_whole_keys t.d_whole_keys ["floor"] (spD K 1 tf_whole_keys) := by
  have sc := sc_whole_keys
  exact fng_dataX (N := ["floor"]) (T := T_whole_keys) t.F_whole_keys sc fun cdv A outer s H E F hK wo' room => have tk' : Takes (cxOf (CX P w) P w K mg base ["floor"] "whole_keys" (defScope s_whole_keys) t.a_whole_keys cdv A outer s H E) (fun c od _ H' => E c od H') := takes_of rfl rfl rfl rfl
    (ds_one (ds_ret (d_callX (ok__whole_directions t) tk' wo' hK (room.mono (by decide)) rfl t.m__whole_directions t.F__whole_directions.kp (b__whole_directions t) (da_cons (d_fld hK (d_var (pv 0))) da_nil))))
def T_gathered_times : TDS := (dSeq (dIfS (dtOr (dtNot (dTest (dCall 1 tf_is_plain_integer (dCons (dVar 1) dNil)))) (dTest (dBin gGt (dCB gAbs (dCons (dVar 1) dNil)) (dC (.int 400)))))
    (dRaise1 "BadCount" "thing" (dVar 1))
    dNext)
    (dSeq (dAsg (dCallX 1 tf_power (dCons (dVar 1) dNil)) (dgName 2))
    (dSeq (dAsg (dUn (gFld "side") (dVar 0)) (dgName 3))
    (dSeq (dIfS (dTest (dBin gEq (dBin gMod (dVar 1) (dC (.int 2))) (dC (.int 1))))
    (dSeq (dAsg (dCallX 2 tf_minus (dCons (dC (.tup [.int (0), .int (0), .int (1)])) (dCons (dVar 2) dNil))) (dgName 2))
    (dAsg (dCB gTuple (dCons (dLcV 3 4 dYes (dUn gNeg (dVar 4))) dNil)) (dgName 3)))
    dNext)
    (dRet (dMk 3 [] tf_Floor_init (dCons (dCallX 2 tf_times (dCons (dVar 2) (dCons (dBin gIx (dUn (gFld "all_keys") (dVar 0)) (dC (.int 0))) dNil))) (dCons (dCallX 2 tf_times (dCons (dVar 2) (dCons (dBin gIx (dUn (gFld "all_keys") (dVar 0)) (dC (.int 1))) dNil))) (dCons (dVar 3) dNil)))))))))
def tf_gathered_times : TF := fun ξ ds Q => tfOf 5 T_gathered_times ξ ds Q
theorem ok_gathered_times (t : Tx K mg) : FnG P w K mg base (CX P w) 9 t.a_gathered_times t.d_gathered_times ["floor", "many"] (spD K 2 tf_gathered_times) := by
  have sc := sc_gathered_times
  exact fng_dataX (N := ["floor", "many", "factor", "side", "part"]) (T := T_gathered_times) t.F_gathered_times sc fun cdv A outer s H E F hK wo' room => have tk' : Takes (cxOf (CX P w) P w K mg base ["floor", "many", "factor", "side", "part"] "gathered_times" (defScope s_gathered_times) t.a_gathered_times cdv A outer s H E) (fun c od _ H' => E c od H') := takes_of rfl rfl rfl rfl
    (ds_cons (ds_if (PW.pt (dw_or (dt_not (dt_val (d_call (ok_is_plain_integer t) hK (room.mono (by decide)) rfl t.m_is_plain_integer t.F_is_plain_integer.kp (b_is_plain_integer t) (da_cons (d_var (pv 1)) da_nil)))) (dw_or1 (dt_gt (d_callB cd_abs call_abs rfl t.n_abs (by decide +kernel) (da_cons (d_var (pv 1)) da_nil)) (d_gint rfl t.k_MOST_TIMES)))))
    (ds_one (ds_raise1 rfl tk' wo' hK t.X_BadCount t.G_BadCount (bi_BadCount t) it_BadCount room.r (d_var (pv 1)) rfl))
    ds_nil)
    (ds_cons (ds_set (i := 2) sc.nd rfl (by first | exact Or.inl rfl | exact Or.inr rfl) (d_callX (ok_power t) tk' wo' hK (room.mono (by decide)) rfl t.m_power t.F_power.kp (b_power t) (da_cons (d_var (pv 1)) da_nil)))
    (ds_cons (ds_set (i := 3) sc.nd rfl (by first | exact Or.inl rfl | exact Or.inr rfl) (d_fld hK (d_var (pv 0))))
    (ds_cons (ds_if (dt_eq hK room.r.units (d_mod (d_var (pv 1)) d_int) d_int)
    (ds_cons (ds_set (i := 2) sc.nd rfl (by first | exact Or.inl rfl | exact Or.inr rfl) (d_callX (ok_minus t) tk' wo' hK (room.mono (by decide)) rfl t.m_minus t.F_minus.kp (b_minus t) (da_cons (d_gtup (ns := [0, 0, 1]) hK rfl t.k_ZERO.1 t.k_ZERO.2) (da_cons (d_var (pv 2)) da_nil))))
    (ds_one (ds_set (i := 3) sc.nd rfl (by first | exact Or.inl rfl | exact Or.inr rfl) (d_callTy (hK ▸ cd_tuple) call_tuple_of rfl t.n_tuple (by decide +kernel) (da_cons (d_lcV hK rfl sc.nd (pv 3) (blkOk_by (own := [("part", 4)]) (N := ["floor", "many", "factor", "side", "part"]) (sc := defScope s_gathered_times) (by decide +kernel)) rfl (fun _ _ _ _ _ => pg_name (i := 4) sc.nd rfl (by first | exact Or.inl rfl | exact Or.inr rfl)) (fun _ _ _ _ _ => dts_nil) (fun _ _ _ _ _ => (d_neg (d_var (pv 4))))) da_nil)))))
    ds_nil)
    (ds_one (ds_ret (d_make t.M_Floor t.I_Floor (ok_Floor_init t) tk' wo' hK (room.mono (by decide)) rfl t.g_Floor (bd_Floor_init_4 t) (fun _ _ _ => rfl) (da_cons (d_callX (ok_times t) tk' wo' hK (room.mono (by decide)) rfl t.m_times t.F_times.kp (b_times t) (da_cons (d_var (pv 2)) (da_cons (d_ix hK (d_fld hK (d_var (pv 0))) d_int (fun _ _ => rfl)) da_nil))) (da_cons (d_callX (ok_times t) tk' wo' hK (room.mono (by decide)) rfl t.m_times t.F_times.kp (b_times t) (da_cons (d_var (pv 2)) (da_cons (d_ix hK (d_fld hK (d_var (pv 0))) d_int (fun _ _ => rfl)) da_nil))) (da_cons (d_var (pv 3)) da_nil))))))))))
def T_gathered : TDS := (dRet (dCallX 2 tf_gathered_times (dCons (dVar 0) (dCons (dC (.int 1)) dNil))))
def tf_gathered : TF := fun ξ ds Q => tfOf 1 T_gathered ξ ds Q
theorem ok_gathered (t : Tx K mg) : FnG P w K mg base (CX P w) 10 t.a_gathered t.d_gathered ["floor"] (spD K 1 tf_gathered) := by
  have sc := sc_gathered
  exact fng_dataX (N := ["floor"]) (T := T_gathered) t.F_gathered sc fun cdv A outer s H E F hK wo' room => have tk' : Takes (cxOf (CX P w) P w K mg base ["floor"] "gathered" (defScope s_gathered) t.a_gathered cdv A outer s H E) (fun c od _ H' => E c od H') := takes_of rfl rfl rfl rfl
    (ds_one (ds_ret (d_callX (ok_gathered_times t) tk' wo' hK (room.mono (by decide)) rfl t.m_gathered_times t.F_gathered_times.kp (b_gathered_times t) (da_cons (d_var (pv 0)) (da_cons d_int da_nil)))))
def T_cut_floor : TDS := (dRet (dCallX 2 tf_gathered_times (dCons (dVar 0) (dCons (dUn gNeg (dC (.int 1))) dNil))))
def tf_cut_floor : TF := fun ξ ds Q => tfOf 1 T_cut_floor ξ ds Q
theorem ok_cut_floor (t : Tx K mg) : FnG P w K mg base (CX P w) 10 t.a_cut_floor t.d_cut_floor ["floor"] (spD K 1 tf_cut_floor) := by
  have sc := sc_cut_floor
  exact fng_dataX (N := ["floor"]) (T := T_cut_floor) t.F_cut_floor sc fun cdv A outer s H E F hK wo' room => have tk' : Takes (cxOf (CX P w) P w K mg base ["floor"] "cut_floor" (defScope s_cut_floor) t.a_cut_floor cdv A outer s H E) (fun c od _ H' => E c od H') := takes_of rfl rfl rfl rfl
    (ds_one (ds_ret (d_callX (ok_gathered_times t) tk' wo' hK (room.mono (by decide)) rfl t.m_gathered_times t.F_gathered_times.kp (b_gathered_times t) (da_cons (d_var (pv 0)) (da_cons (d_neg d_int) da_nil)))))
theorem ok__law_deck (t : Tx K mg) : FnG P w K mg base CX0 1 t.a__law_deck t.d__law_deck ["_law_script"] (spDeck K) := by
  have sc : FnScope ["_law_script", "_law_mixed", "_law_cell"] ["_law_script"] (defScope s__law_deck) := sc__law_deck
  refine fng_of (N := ["_law_script", "_law_mixed", "_law_cell"]) t.F__law_deck sc ?_ ?_
  · rintro vs H Q E ⟨a, ns, rfl, _⟩
    rfl
  rintro cdv A outer s H vs Q E room ⟨a, ns, rfl, hS, hlen, k⟩
  refine ⟨_, PSs.nox (pss_cons (ps_set (i := 1) sc.nd rfl (.inl rfl) pe_int)
    (pss_cons (ps_for PassesOwn.never rfl (pi_list (pe_slice sl_list (pv 0) po_none (po_some pe_int))) (pg_name (i := 2) sc.nd rfl (.inl rfl))
      (pss_one (ps_set (i := 1) sc.nd rfl (.inl rfl) (pe_op op_mod (pe_callTy call_int1 (by rfl) t.n_int (by decide +kernel) (pa_cons (pe_op op_add (pe_op op_add (pe_op op_mul (pv 1) pe_int) (pe_op op_mod (pe_callTy call_int1 (by rfl) t.n_int (by decide +kernel) (pa_cons (pv 2) pa_nil)) pe_int)) pe_int) pa_nil)) pe_int))))
    (pss_one (ps_ret (pe_disp (pps_cons pe_str (pe_revL (pe_callTy call_list_of (by rfl) t.n_list (by decide +kernel) (pa_cons (pe_slice sl_list (pv 0) po_none (po_some pe_int)) pa_nil)))
      (pps_cons pe_str (pv 1) (pps_cons pe_str pe_int pps_nil))) (by rfl) (by rfl) (fun z => by cases z) (by decide)))))), ?_⟩
  obtain ⟨ms, hms, hml⟩ := cut_ints ns none (some 63)
  refine ⟨_, rfl, _, rfl, a, _, rfl, hS, fun p hp => ⟨p, rfl, ⟨_, SqL.of upd_same⟩, ?_⟩⟩
  rw [hms]
  have S1 : Same H (upd H p (.lst (ms.map V.int))) := (Same.refl H).lay hp
  refine for_list (K := K) (a := p) (xs := ms.map V.int) (fun i σ' H' => ∃ (m : Int) (v : Option V), σ' = [some (.ref a), some (.int m), v] ∧ H' = upd H p (.lst (ms.map V.int))) ⟨_, _, rfl, rfl⟩ ?_ ?_ ?_
  · rintro i σ' H' _ ⟨m, v, rfl, rfl⟩
    exact SqL.of upd_same
  · rintro i x σ' H' hx ⟨m, v, rfl, rfl⟩
    obtain ⟨u, rfl⟩ : ∃ u, x = V.int u := by
      rw [List.getElem?_map, Option.map_eq_some_iff] at hx
      obtain ⟨u, _, e⟩ := hx
      exact ⟨u, e.symm⟩
    refine ⟨_, rfl, _, _, rfl, rfl, .inr ⟨by decide, by decide⟩, _, rfl, .inl ⟨_, rfl, _, _, rfl, rfl, (by show (0 : Int) < _; decide), _, _, rfl, rfl, _, _, rfl, rfl, .inl ⟨_, rfl, _, _, rfl, rfl, (by show (0 : Int) < _; decide), ?_⟩⟩⟩
    exact ⟨_, _, rfl, rfl⟩
  · rintro σ' H' ⟨m, v, rfl, rfl⟩
    intro p2 hp2
    have S2 := S1.lay (o := .dK []) hp2
    refine ⟨_, rfl, _, rfl, a, _, rfl, S2.seq hS, fun p3 hp3 => ⟨p3, _, rfl, .inl (SqL.of upd_same), fun p4 hp4 => ⟨p4, _, rfl, SqL.of upd_same, fun l hl => ?_⟩⟩⟩
    have S3 := S2.lay (o := .lst (cutV (ns.map V.int) none (some 63))) hp3
    have S4 := S3.lay (o := .lst (cutV (ns.map V.int) none (some 63))) hp4
    have S5 := S4.lay (o := .lst (cutV (ns.map V.int) none (some 63)).reverse) hl
    have D2 : upd (upd H p (.lst (ms.map V.int))) p2 (.dK []) p2 = some (.dK []) := upd_same
    have D5 := keepU (o := .lst (cutV (ns.map V.int) none (some 63)).reverse) (keepU (o := .lst (cutV (ns.map V.int) none (some 63))) (keepU (o := .lst (cutV (ns.map V.int) none (some 63))) D2 hp3) hp4) hl
    refine ⟨_, rfl, D5, [(.inr ("left" : Str), .ref l), (.inr ("mixed" : Str), .int m), (.inr ("draws" : Str), .int 0)], rfl, (by show 3 ≤ 15; decide), ?_⟩
    rw [merge_deck]
    have nl : l ≠ p2 := (ne_of_none (keepU (o := .lst (cutV (ns.map V.int) none (some 63))) (keepU (o := .lst (cutV (ns.map V.int) none (some 63))) D2 hp3) hp4) hl).symm
    refine k _ p2 l m ms.reverse (fun q o e => ?_) (S1.free hp2) (S4.free hl) upd_same ?_ (by rw [List.length_reverse]; omega)
    · have nq : q ≠ p2 := ne_of_none e (S1.free hp2)
      rw [upd_ne nq]
      exact S5 q o e
    · rw [upd_ne nl, upd_same, hms, List.map_reverse]
theorem ok__law_draw (t : Tx K mg) : FnG P w K mg base CX0 1 t.a__law_draw t.d__law_draw ["_law_deck_here", "_law_many"] (spD K 2 tf_draw) := by
  have sc : FnScope ["_law_deck_here", "_law_many", "_law_figure", "_law_cell"] ["_law_deck_here", "_law_many"] (defScope s__law_draw) := sc__law_draw
  refine fng_of (N := ["_law_deck_here", "_law_many", "_law_figure", "_law_cell"]) t.F__law_draw sc ?_ ?_
  · rintro vs H Q E ⟨Z, B, ds, Qd, Ed, b, r, hl, _⟩
    rw [← r.length, hl]; rfl
  rintro cdv A outer s H vs Q E room ⟨Z, B, ds, Qd, Ed, b, r, hl, hT, hq, _⟩
  have hu := hu_of room.r
  obtain ⟨a, l, n, hz, rfl, ⟨n0, n1⟩, hT⟩ := draw_reps r hT
  obtain ⟨xs, m, k, h1, h2, h3⟩ := b.deck.1 a l hz
  refine ⟨_, PSs.nox (pss_cons (ps_dput hu (pv 0) pe_str (pe_op op_add (pe_dget hu (pv 0) pe_str (fun _ _ => rfl)) pe_int) rfl)
    (pss_cons (ps_set (i := 2) sc.nd rfl (.inl rfl) (pe_op op_add (pe_dget hu (pv 0) pe_str (fun _ _ => rfl)) (pe_op op_mul pe_int (pe_dget hu (pv 0) pe_str (fun _ _ => rfl)))))
    (pss_cons (ps_if (pt_cmpR (op_neD room.r.units) (pe_dget hu (pv 0) pe_str (fun _ _ => rfl)) (pe_lst pa_nil) (nomark _))
      (pss_cons (ps_set (i := 3) sc.nd rfl (.inl rfl) (pe_bm0 PySem.F.plainAttrs_list PySem.F.slot_list_pop PySem.F.type_list_pop mt_pop (pe_dget hu (pv 0) pe_str (fun _ _ => rfl))))
      (pss_cons (ps_if (pt_cmpR op_ge (pv 3) (pe_op op_pow pe_int pe_int) (nomark _))
        (pss_cons (ps_expr (pe_bm PySem.F.plainAttrs_list PySem.F.slot_list_append PySem.F.type_list_append mt_append (pe_dget hu (pv 0) pe_str (fun _ _ => rfl))
          (pa_cons (pe_op op_fdiv (pv 3) (pe_callB (call_max2 rfl) (by rfl) t.n_max (by decide +kernel) (pa_cons pe_int (pa_cons (pv 1) pa_nil)))) pa_nil)))
        (pss_one (ps_ret (pe_op op_mod (pe_callTy call_int1 (by rfl) t.n_int (by decide +kernel) (pa_cons (pv 3) pa_nil)) (pv 1)))))
        pss_nil)
      (pss_one (ps_set (i := 2) sc.nd rfl (.inl rfl) (pe_op op_add (pv 2) (pe_op op_mod (pe_callTy call_int1 (by rfl) t.n_int (by decide +kernel) (pa_cons (pv 3) pa_nil)) pe_int))))))
      pss_nil)
    (pss_cons (ps_set (i := 2) sc.nd rfl (.inl rfl) (pe_op op_mod (pe_callTy call_int1 (by rfl) t.n_int (by decide +kernel) (pa_cons (pe_op op_add (pe_op op_mul (pv 2) pe_int) pe_int) pa_nil)) pe_int))
    (pss_cons (ps_set (i := 2) sc.nd rfl (.inl rfl) (pe_op op_mod (pe_callTy call_int1 (by rfl) t.n_int (by decide +kernel) (pa_cons (pe_op op_add (pe_op op_add (pe_op op_mul (pv 2) (pv 2)) (pe_op op_mul pe_int (pe_dget hu (pv 0) pe_str (fun _ _ => rfl)))) pe_int) pa_nil)) pe_int))
    (pss_cons (ps_set (i := 2) sc.nd rfl (.inl rfl) (pe_op op_mod (pe_callTy call_int1 (by rfl) t.n_int (by decide +kernel) (pa_cons (pe_op op_mul (pv 2) pe_int) pa_nil)) pe_int))
    (pss_one (ps_ret (pe_op op_mod (pe_callTy call_int1 (by rfl) t.n_int (by decide +kernel) (pa_cons (pe_op op_fdiv (pv 2) pe_int) pa_nil)) (pv 1)))))))))), ?_⟩
  have hne : a ≠ l := ne_of h1 h2 (by intro z; cases z)
  have K0 : Dk a l H H m k xs := ⟨fun _ _ _ _ e => e, h1, h2, hne, fun _ _ t => t⟩
  have zq : ∀ {H' : Hp} {m k : Int} {ys : List Int} {r : Int}, Dk a l H H' m k ys → ys.length ≤ 63 → 0 ≤ r → r < n → Q (.int r) H' := fun d hy r0 r1 => hq _ _ (.int _) (d.ext hy hz) rfl (hT _ r0 r1)
  -- the number of draws
  refine ⟨_, rfl, a, _, rfl, dg_d h1, _, _, rfl, rfl, _, rfl, a, _, rfl, dp_d h1, ?_⟩
  have K1 := K0.put (j := k + 1)
  -- the figure
  refine ⟨_, rfl, a, _, rfl, dg_m K1.dict, _, rfl, a, _, rfl, dg_d K1.dict, _, _, rfl, rfl, .inl ⟨by decide, by decide⟩, _, _, rfl, rfl, ?_⟩
  have K2 : ∀ p, (upd H a (.dK (deckKvs l m (k + 1)))) p = none → Dk a l H (upd (upd H a (.dK (deckKvs l m (k + 1)))) p (.lst [])) m (k + 1) xs := fun p hp => K1.new hp
  refine ⟨_, rfl, a, _, rfl, dg_l K1.dict, Nat.zero_le _, fun p hp => ?_⟩
  have K3 := K2 p hp
  refine ⟨.list (xs.map PyData.int), .list [], .lst (SqL.of K3.list) (dp_ints xs), .lst (SqL.of upd_same) .nil, shaped_ints xs, rfl, _, rfl, ?_⟩
  rw [eqv_ints_nil]
  generalize hb : (!xs.isEmpty) = bb
  have big : ∀ x : Int, -(2 ^ 64) < x % 2147483563 ∧ x % 2147483563 < 2 ^ 64 := fun x => by omega
  obtain e | ⟨xs', cell, e⟩ := last_of xs
  · subst e
    have hb : false = bb := hb
    subst hb
    refine iteF ?_
    have K9 := K3
    have hy : ([] : List Int).length ≤ 63 := h3
    refine ⟨_, rfl, _, _, rfl, rfl, .inr ⟨by decide, by decide⟩, _, _, rfl, rfl, .inl ⟨_, rfl, _, _, rfl, rfl, (by show (0 : Int) < _; decide), ?_⟩⟩
    refine ⟨_, rfl, _, rfl, _, _, rfl, rfl, .inl (big _), _, rfl, a, _, rfl, dg_d K9.dict, _, _, rfl, rfl, .inl ⟨by decide, by decide⟩, _, _, rfl, rfl, _, _, rfl, rfl, .inl ⟨_, rfl, _, _, rfl, rfl, (by show (0 : Int) < _; decide), ?_⟩⟩
    refine ⟨_, rfl, _, _, rfl, rfl, .inr ⟨by decide, by decide⟩, .inl ⟨_, rfl, _, _, rfl, rfl, (by show (0 : Int) < _; decide), ?_⟩⟩
    refine ⟨_, rfl, _, _, rfl, rfl, ⟨by decide, by decide⟩, .inl ⟨_, rfl, _, rfl, _, _, rfl, rfl, n0, ?_⟩⟩
    exact zq K9 hy (Int.emod_nonneg _ (by omega)) (Int.emod_lt_of_pos _ n0)
  · subst e
    have hy : xs'.length ≤ 62 := by simpa using h3
    have hb : true = bb := by rw [← hb]; simp
    subst hb
    refine iteT ?_
    refine ⟨_, rfl, a, _, rfl, dg_l K3.dict, .inl ⟨rfl, _, SqL.of K3.list⟩, l, _, .int cell, rfl, rfl, K3.list, by simp, ?_⟩
    rw [show ((xs' ++ [cell]).map V.int).dropLast = xs'.map V.int from by simp]
    have K9 := K3.set (ys := xs')
    refine ⟨_, rfl, _, _, rfl, rfl, ⟨by decide, by decide, by decide⟩, _, _, rfl, rfl, _, rfl, ?_⟩
    refine ite2 (fun _ => ?_) (fun _ => ?_)
    · refine ⟨_, rfl, a, _, rfl, dg_l K9.dict, .inl ⟨rfl, _, SqL.of K9.list⟩, _, rfl, _, rfl, _, _, rfl, _, _, rfl, rfl, ⟨by split <;> omega, by split <;> omega⟩, l, _, _, rfl, rfl, K9.list, by rw [List.length_map, sizeLine_eq]; omega, ?_⟩
      refine ⟨_, rfl, .inl ⟨_, rfl, _, rfl, _, _, rfl, rfl, n0, ?_⟩⟩
      rw [show ∀ q : Int, xs'.map V.int ++ [V.int q] = (xs' ++ [q]).map V.int from fun q => by simp]
      exact zq (K9.set (ys := xs' ++ [_])) (by simp; omega) (Int.emod_nonneg _ (by omega)) (Int.emod_lt_of_pos _ n0)
    · refine ⟨_, rfl, _, rfl, .inl ⟨_, rfl, _, _, rfl, rfl, (by show (0 : Int) < _; decide), _, _, rfl, rfl, ?_⟩⟩
      have hy : xs'.length ≤ 63 := by omega
      refine ⟨_, rfl, _, _, rfl, rfl, .inr ⟨by decide, by decide⟩, _, _, rfl, rfl, .inl ⟨_, rfl, _, _, rfl, rfl, (by show (0 : Int) < _; decide), ?_⟩⟩
      refine ⟨_, rfl, _, rfl, _, _, rfl, rfl, .inl (big _), _, rfl, a, _, rfl, dg_d K9.dict, _, _, rfl, rfl, .inl ⟨by decide, by decide⟩, _, _, rfl, rfl, _, _, rfl, rfl, .inl ⟨_, rfl, _, _, rfl, rfl, (by show (0 : Int) < _; decide), ?_⟩⟩
      refine ⟨_, rfl, _, _, rfl, rfl, .inr ⟨by decide, by decide⟩, .inl ⟨_, rfl, _, _, rfl, rfl, (by show (0 : Int) < _; decide), ?_⟩⟩
      refine ⟨_, rfl, _, _, rfl, rfl, ⟨by decide, by decide⟩, .inl ⟨_, rfl, _, rfl, _, _, rfl, rfl, n0, ?_⟩⟩
      exact zq K9 hy (Int.emod_nonneg _ (by omega)) (Int.emod_lt_of_pos _ n0)
def T__law_pick : TDS := (dRet (dBin gIx (dVar 1) (dCall 2 tf_draw (dCons (dVar 0) (dCons (dCB gLen (dCons (dVar 1) dNil)) dNil)))))
def tf__law_pick : TF := fun _ ds Q => tfOf 2 T__law_pick (fun _ => False) ds Q
theorem ok__law_pick (t : Tx K mg) : FnG P w K mg base CX0 2 t.a__law_pick t.d__law_pick ["_law_deck_here", "_law_some"] (spD K 2 tf__law_pick) := by
  have sc := sc__law_pick
  exact fng_data (N := ["_law_deck_here", "_law_some"]) (T := T__law_pick) t.F__law_pick sc fun cdv A outer s H E F hK hF room =>
    (ds_one (ds_ret (d_ix hK (d_var (pv 1)) (d_call (ok__law_draw t) hK (room.mono (by decide)) rfl t.m__law_draw t.F__law_draw.kp (b__law_draw t) (da_cons (d_var (pv 0)) (da_cons (d_callB (hK ▸ cd_len) call_len_seq rfl t.n_len (by decide +kernel) (da_cons (d_var (pv 1)) da_nil)) da_nil))) (fun _ _ => rfl))))
def T__law_integer : TDS := (dSeq (dPar3 2 3 4 (dCons (dCall 2 tf_draw (dCons (dVar 0) (dCons (dC (.int 9)) dNil))) (dCons (dBin gSub (dC (.int 1)) (dBin gMulA (dC (.int 2)) (dCall 2 tf_draw (dCons (dVar 0) (dCons (dC (.int 2)) dNil))))) (dCons (dC (.int 0)) dNil))))
    (dSeq (dIfS (dTest (dBin gLt (dVar 2) (dC (.int 6))))
    (dRet (dBin gMulA (dVar 3) (dCall 2 tf_draw (dCons (dVar 0) (dCons (dBin gIx (dTup (dCons (dC (.int 1)) (dCons (dC (.int 3)) (dCons (dC (.int 5)) (dCons (dC (.int 13)) (dCons (dC (.int 100)) (dCons (dC (.int 1000)) dNil))))))) (dVar 2)) dNil)))))
    dNext)
    (dSeq (dIfS (dTest (dBin gEq (dVar 2) (dC (.int 6))))
    (dRet (dBin gMulA (dVar 3) (dBin gSub (dUn gNinesB (dBin gMulA (dC (.int 6)) (dVar 1))) (dCall 2 tf_draw (dCons (dVar 0) (dCons (dC (.int 50)) dNil))))))
    dNext)
    (dSeq (dForR (dCons (dBin gAddA (dC (.int 1)) (dCall 2 tf_draw (dCons (dVar 0) (dCons (dVar 1) dNil)))) dNil) (dgName 5)
    (dAsg (dBin gAddA (dBin gMulA (dVar 4) (dBin gPow (dC (.int 10)) (dC (.int 6)))) (dCall 2 tf_draw (dCons (dVar 0) (dCons (dBin gPow (dC (.int 10)) (dC (.int 6))) dNil)))) (dgName 4)))
    (dRet (dBin gMulA (dVar 3) (dVar 4)))))))
def tf__law_integer : TF := fun _ ds Q => tfOf 6 T__law_integer (fun _ => False) ds Q
theorem ok__law_integer (t : Tx K mg) : FnG P w K mg base CX0 2 t.a__law_integer t.d__law_integer ["_law_deck_here", "_law_pieces"] (spD K 2 tf__law_integer) := by
  have sc := sc__law_integer
  exact fng_data (N := ["_law_deck_here", "_law_pieces", "_law_way", "_law_facing", "_law_found", "_law_piece"]) (T := T__law_integer) t.F__law_integer sc fun cdv A outer s H E F hK hF room =>
    (ds_cons (ds_par3 (i := 2) (j := 3) (l := 4) rfl sc.nd rfl rfl rfl (by decide) (by decide) (by decide) rfl rfl rfl (da_cons (d_call (ok__law_draw t) hK (room.mono (by decide)) rfl t.m__law_draw t.F__law_draw.kp (b__law_draw t) (da_cons (d_var (pv 0)) (da_cons d_int da_nil))) (da_cons (d_sub d_int (d_mulA d_int (d_call (ok__law_draw t) hK (room.mono (by decide)) rfl t.m__law_draw t.F__law_draw.kp (b__law_draw t) (da_cons (d_var (pv 0)) (da_cons d_int da_nil))))) (da_cons d_int da_nil))))
    (ds_cons (ds_if (dt_lt (d_var (pv 2)) d_int)
    (ds_one (ds_ret (d_mulA (d_var (pv 3)) (d_call (ok__law_draw t) hK (room.mono (by decide)) rfl t.m__law_draw t.F__law_draw.kp (b__law_draw t) (da_cons (d_var (pv 0)) (da_cons (d_ix hK (d_tup (da_cons d_int (da_cons d_int (da_cons d_int (da_cons d_int (da_cons d_int (da_cons d_int da_nil))))))) (d_var (pv 2)) (fun _ _ => rfl)) da_nil))))))
    ds_nil)
    (ds_cons (ds_if (dt_eq hK room.r.units (d_var (pv 2)) d_int)
    (ds_one (ds_ret (d_mulA (d_var (pv 3)) (d_sub (d_ninesB (hK ▸ t.mx) rfl t.n_int (d_mulA d_int (d_var (pv 1)))) (d_call (ok__law_draw t) hK (room.mono (by decide)) rfl t.m__law_draw t.F__law_draw.kp (b__law_draw t) (da_cons (d_var (pv 0)) (da_cons d_int da_nil)))))))
    ds_nil)
    (ds_cons (ds_forR1 PassesOwn.never rfl rfl t.n_range (da_cons (d_addA hK d_int (d_call (ok__law_draw t) hK (room.mono (by decide)) rfl t.m__law_draw t.F__law_draw.kp (b__law_draw t) (da_cons (d_var (pv 0)) (da_cons (d_var (pv 1)) da_nil)))) da_nil) (dg_name (pg_name (i := 5) sc.nd rfl (by first | exact Or.inl rfl | exact Or.inr rfl)))
    (ds_one (ds_set (i := 4) sc.nd rfl (by first | exact Or.inl rfl | exact Or.inr rfl) (d_addA hK (d_mulA (d_var (pv 4)) (d_pow d_int d_int)) (d_call (ok__law_draw t) hK (room.mono (by decide)) rfl t.m__law_draw t.F__law_draw.kp (b__law_draw t) (da_cons (d_var (pv 0)) (da_cons (d_pow d_int d_int) da_nil)))))))
    (ds_one (ds_ret (d_mulA (d_var (pv 3)) (d_var (pv 4)))))))))
def T__law_common : TDS := (dSeq (dPar 2 3 (dCons (dCB gAbs (dCons (dVar 0) dNil)) (dCons (dCB gAbs (dCons (dVar 1) dNil)) dNil)))
    (dSeq (dWhile (dTest (dBin gNe (dVar 3) (dC (.int 0))))
    (dPar 2 3 (dCons (dVar 3) (dCons (dBin gMod (dCB gInt (dCons (dVar 2) dNil)) (dVar 3)) dNil))))
    (dRet (dVar 2))))
def tf__law_common : TF := fun _ ds Q => tfOf 4 T__law_common (fun _ => False) ds Q
theorem ok__law_common (t : Tx K mg) : FnG P w K mg base CX0 1 t.a__law_common t.d__law_common ["_law_a", "_law_b"] (spD K 2 tf__law_common) := by
  have sc := sc__law_common
  exact fng_data (N := ["_law_a", "_law_b", "_law_near", "_law_far"]) (T := T__law_common) t.F__law_common sc fun cdv A outer s H E F hK hF room =>
    (ds_cons (ds_par (i := 2) (j := 3) rfl sc.nd rfl rfl (by decide) rfl rfl (da_cons (d_callB cd_abs call_abs rfl t.n_abs (by decide +kernel) (da_cons (d_var (pv 0)) da_nil)) (da_cons (d_callB cd_abs call_abs rfl t.n_abs (by decide +kernel) (da_cons (d_var (pv 1)) da_nil)) da_nil)))
    (ds_cons (ds_while PassesOwn.never (dt_ne hK room.r.units (d_var (pv 3)) d_int)
    (ds_one (ds_par (i := 2) (j := 3) rfl sc.nd rfl rfl (by decide) rfl rfl (da_cons (d_var (pv 3)) (da_cons (d_mod (d_callTy cd_int call_int1 rfl t.n_int (by decide +kernel) (da_cons (d_var (pv 2)) da_nil)) (d_var (pv 3))) da_nil)))))
    (ds_one (ds_ret (d_var (pv 2))))))
def T__law_least : TDS := (dSeq (dAsg (dCall 2 tf__law_common (dCons (dCall 2 tf__law_common (dCons (dVar 0) (dCons (dVar 1) dNil))) (dCons (dVar 2) dNil))) (dgName 3))
    (dRet (dTup (dCons (dBin gDivB (dVar 0) (dVar 3)) (dCons (dBin gDivB (dVar 1) (dVar 3)) (dCons (dBin gDivB (dVar 2) (dVar 3)) dNil))))))
def tf__law_least : TF := fun _ ds Q => tfOf 4 T__law_least (fun _ => False) ds Q
theorem ok__law_least (t : Tx K mg) : FnG P w K mg base CX0 2 t.a__law_least t.d__law_least ["_law_a", "_law_b", "_law_d"] (spD K 3 tf__law_least) := by
  have sc := sc__law_least
  exact fng_data (N := ["_law_a", "_law_b", "_law_d", "_law_common_here"]) (T := T__law_least) t.F__law_least sc fun cdv A outer s H E F hK hF room =>
    (ds_cons (ds_set (i := 3) sc.nd rfl (by first | exact Or.inl rfl | exact Or.inr rfl) (d_call (ok__law_common t) hK (room.mono (by decide)) rfl t.m__law_common t.F__law_common.kp (b__law_common t) (da_cons (d_call (ok__law_common t) hK (room.mono (by decide)) rfl t.m__law_common t.F__law_common.kp (b__law_common t) (da_cons (d_var (pv 0)) (da_cons (d_var (pv 1)) da_nil))) (da_cons (d_var (pv 2)) da_nil))))
    (ds_one (ds_ret (d_tup (da_cons (d_divB (d_var (pv 0)) (d_var (pv 3))) (da_cons (d_divB (d_var (pv 1)) (d_var (pv 3))) (da_cons (d_divB (d_var (pv 2)) (d_var (pv 3))) da_nil)))))))
def T__law_keys : TDS := (dSeq (dOwn (lLst (dCons (dVar 0) (dCons (dVar 1) dNil))) 3)
    (dSeq (dForR (dCons (dC (.int 3)) dNil) (dgName 4)
    (dSeq (dAsg (dTup (dCons (dOwnIx 3 (dUn gNeg (dC (.int 2)))) (dCons (dOwnIx 3 (dUn gNeg (dC (.int 1)))) dNil))) (dgTup 2 (dgCons (dgTup 2 (dgCons (dgName 5) (dgCons (dgName 6) dgNil))) (dgCons (dgTup 2 (dgCons (dgName 7) (dgCons (dgName 8) dgNil))) dgNil))))
    (dApp 3 (dTup (dCons (dBin gSub (dUn gNeg (dVar 8)) (dVar 5)) (dCons (dBin gSub (dBin gSub (dUn gNeg (dVar 7)) (dVar 8)) (dVar 6)) dNil))))))
    (dFreeze 3 (dRet (dLcR (dCons (dC (.int 5)) dNil) 9 dYes (dBin gIx (dVar 3) (dBin gMod (dCB gInt (dCons (dBin gSub (dVar 9) (dVar 2)) dNil)) (dC (.int 5)))))))))
def tf__law_keys : TF := fun _ ds Q => tfOf 10 T__law_keys (fun _ => False) ds Q
theorem ok__law_keys (t : Tx K mg) : FnG P w K mg base CX0 1 t.a__law_keys t.d__law_keys ["_law_near", "_law_far", "_law_at"] (spD K 3 tf__law_keys) := by
  have sc := sc__law_keys
  exact fng_data (N := ["_law_near", "_law_far", "_law_at", "_law_found", "_law_turn", "_law_a", "_law_b", "_law_c", "_law_e", "_law_r"]) (T := T__law_keys) t.F__law_keys sc fun cdv A outer s H E F hK hF room =>
    (ds_cons (ds_own (i := 3) sc.nd rfl (by first | exact Or.inl rfl | exact Or.inr rfl) (l_lst (da_cons (d_var (pv 0)) (da_cons (d_var (pv 1)) da_nil))))
    (ds_cons (ds_forR1 PassesOwn.never rfl rfl t.n_range (da_cons d_int da_nil) (dg_name (pg_name (i := 4) sc.nd rfl (by first | exact Or.inl rfl | exact Or.inr rfl)))
    (ds_cons (ds_asg (d_tup (da_cons (d_ownIx hK (pv 3) (d_neg d_int) (fun _ _ => rfl)) (da_cons (d_ownIx hK (pv 3) (d_neg d_int) (fun _ _ => rfl)) da_nil))) (dg_tup hK rfl (dgs_cons (dg_tup hK rfl (dgs_cons (dg_name (pg_name (i := 5) sc.nd rfl (by first | exact Or.inl rfl | exact Or.inr rfl))) (dgs_cons (dg_name (pg_name (i := 6) sc.nd rfl (by first | exact Or.inl rfl | exact Or.inr rfl))) dgs_nil))) (dgs_cons (dg_tup hK rfl (dgs_cons (dg_name (pg_name (i := 7) sc.nd rfl (by first | exact Or.inl rfl | exact Or.inr rfl))) (dgs_cons (dg_name (pg_name (i := 8) sc.nd rfl (by first | exact Or.inl rfl | exact Or.inr rfl))) dgs_nil))) dgs_nil))))
    (ds_one (ds_app hK (pv 3) (d_tup (da_cons (d_sub (d_neg (d_var (pv 8))) (d_var (pv 5))) (da_cons (d_sub (d_sub (d_neg (d_var (pv 7))) (d_var (pv 8))) (d_var (pv 6))) da_nil)))))))
    (dss_freeze (i := 3) (ds_one (ds_ret (d_lcR hK rfl sc.nd rfl t.n_range (da_cons d_int da_nil) (blkOk_by (own := [("_law_r", 9)]) (N := ["_law_near", "_law_far", "_law_at", "_law_found", "_law_turn", "_law_a", "_law_b", "_law_c", "_law_e", "_law_r"]) (sc := defScope s__law_keys) (by decide +kernel)) rfl (fun _ _ _ _ _ => pg_name (i := 9) sc.nd rfl (by first | exact Or.inl rfl | exact Or.inr rfl)) (fun _ _ _ _ _ => dts_nil) (fun _ _ _ _ _ => (d_ix hK (d_var (pv 3)) (d_mod (d_callTy cd_int call_int1 rfl t.n_int (by decide +kernel) (da_cons (d_sub (d_var (pv 9)) (d_var (pv 2))) da_nil)) d_int) (fun _ _ => rfl)))))))))
def T__law_sides : TDS := (dSeq (dIfS (dTest (dBin gLt (dCB gLen (dCons (dVar 0) dNil)) (dC (.int 2))))
    (dSeq (dAsg (dIf (dTest (dBin gNeL (dVar 0) (dLst dNil))) (dTup (dCons (dUn gNeg (dC (.int 1))) (dCons (dC (.int 1)) dNil))) (dTup (dCons (dC (.int 0)) dNil))) (dgName 1))
    (dRet (dLcV 1 3 dYes (dCB gTuple (dCons (dLcR (dCons (dC (.int 5)) dNil) 2 dYes (dIf (dTest (dBin (gInD false) (dVar 2) (dVar 0))) (dVar 3) (dC (.int 0)))) dNil)))))
    dNext)
    (dSeq (dAsg (dLst dNil) (dgName 4))
    (dSeq (dForR (dCons (dC (.int 5)) dNil) (dgName 5)
    (dSeq (dAsg (dLcR (dCons (dC (.int 5)) dNil) 2 dYes (dBin gIx (dTup (dCons (dC (.int 1)) (dCons (dUn gNeg (dC (.int 1))) (dCons (dC (.int 1)) (dCons (dC (.int 1)) (dCons (dUn gNeg (dC (.int 1))) dNil)))))) (dBin gMod (dCB gInt (dCons (dBin gSub (dVar 2) (dVar 5)) dNil)) (dC (.int 5))))) (dgName 6))
    (dAsg (dBin gAddA (dVar 4) (dLst (dCons (dCB gTuple (dCons (dVar 6) dNil)) (dCons (dCB gTuple (dCons (dLcV 6 3 dYes (dUn gNeg (dVar 3))) dNil)) dNil)))) (dgName 4))))
    (dRet (dCB gSort (dCons (dVar 4) dNil))))))
def tf__law_sides : TF := fun _ ds Q => tfOf 7 T__law_sides (fun _ => False) ds Q
theorem ok__law_sides (t : Tx K mg) : FnG P w K mg base CX0 1 t.a__law_sides t.d__law_sides ["_law_whole"] (spD K 1 tf__law_sides) := by
  have sc := sc__law_sides
  exact fng_data (N := ["_law_whole", "_law_signs", "_law_r", "_law_it", "_law_found", "_law_q", "_law_some"]) (T := T__law_sides) t.F__law_sides sc fun cdv A outer s H E F hK hF room =>
    (ds_cons (ds_if (dt_lt (d_callB (hK ▸ cd_len) call_len_seq rfl t.n_len (by decide +kernel) (da_cons (d_var (pv 0)) da_nil)) d_int)
    (ds_cons (ds_set (i := 1) sc.nd rfl (by first | exact Or.inl rfl | exact Or.inr rfl) (d_if (dt_neL hK room.r.units (d_var (pv 0)) (d_lst da_nil)) (d_tup (da_cons (d_neg d_int) (da_cons d_int da_nil))) (d_tup (da_cons d_int da_nil))))
    (ds_one (ds_ret (d_lcV hK rfl sc.nd (pv 1) (blkOk_by (own := [("_law_it", 3)]) (N := ["_law_whole", "_law_signs", "_law_r", "_law_it", "_law_found", "_law_q", "_law_some"]) (sc := defScope s__law_sides) (by decide +kernel)) rfl (fun _ _ _ _ _ => pg_name (i := 3) sc.nd rfl (by first | exact Or.inl rfl | exact Or.inr rfl)) (fun _ _ _ _ _ => dts_nil) (fun _ _ _ _ _ => (d_callTy (hK ▸ cd_tuple) call_tuple_of rfl t.n_tuple (by decide +kernel) (da_cons (d_lcR hK rfl sc.nd rfl t.n_range (da_cons d_int da_nil) (blkOk_in (own := [("_law_r", 2)]) (N := ["_law_whole", "_law_signs", "_law_r", "_law_it", "_law_found", "_law_q", "_law_some"]) (by decide +kernel)) rfl (fun _ _ _ _ _ => pg_name (i := 2) sc.nd rfl (by first | exact Or.inl rfl | exact Or.inr rfl)) (fun _ _ _ _ _ => dts_nil) (fun _ _ _ _ _ => (d_if (dt_inD hK (u65 room.r) (d_var (pv 2)) (d_var (pv 0))) (d_var (pv 3)) d_int))) da_nil)))))))
    ds_nil)
    (ds_cons (ds_set (i := 4) sc.nd rfl (by first | exact Or.inl rfl | exact Or.inr rfl) (d_lst da_nil))
    (ds_cons (ds_forR1 PassesOwn.never rfl rfl t.n_range (da_cons d_int da_nil) (dg_name (pg_name (i := 5) sc.nd rfl (by first | exact Or.inl rfl | exact Or.inr rfl)))
    (ds_cons (ds_setLcR hK rfl sc.nd (by rfl) t.n_range (da_cons d_int da_nil) (blkOk_by (own := [("_law_r", 2)]) (N := ["_law_whole", "_law_signs", "_law_r", "_law_it", "_law_found", "_law_q", "_law_some"]) (sc := defScope s__law_sides) (by decide +kernel)) rfl (i := 6) rfl rfl (sw_true rfl rfl rfl (by decide +kernel)) (fun _ _ _ _ _ => pg_name (i := 2) sc.nd rfl (by first | exact Or.inl rfl | exact Or.inr rfl)) (fun _ _ _ _ _ => dts_nil) (fun _ _ _ _ _ => (d_ix hK (d_tup (da_cons d_int (da_cons (d_neg d_int) (da_cons d_int (da_cons d_int (da_cons (d_neg d_int) da_nil)))))) (d_mod (d_callTy cd_int call_int1 rfl t.n_int (by decide +kernel) (da_cons (d_sub (d_var (pv 2)) (d_var (pv 5))) da_nil)) d_int) (fun _ _ => rfl))))
    (ds_one (ds_set (i := 4) sc.nd rfl (by first | exact Or.inl rfl | exact Or.inr rfl) (d_addA hK (d_var (pv 4)) (d_lst (da_cons (d_callTy (hK ▸ cd_tuple) call_tuple_of rfl t.n_tuple (by decide +kernel) (da_cons (d_var (pv 6)) da_nil)) (da_cons (d_callTy (hK ▸ cd_tuple) call_tuple_of rfl t.n_tuple (by decide +kernel) (da_cons (d_lcV hK rfl sc.nd (pv 6) (blkOk_by (own := [("_law_it", 3)]) (N := ["_law_whole", "_law_signs", "_law_r", "_law_it", "_law_found", "_law_q", "_law_some"]) (sc := defScope s__law_sides) (by decide +kernel)) rfl (fun _ _ _ _ _ => pg_name (i := 3) sc.nd rfl (by first | exact Or.inl rfl | exact Or.inr rfl)) (fun _ _ _ _ _ => dts_nil) (fun _ _ _ _ _ => (d_neg (d_var (pv 3))))) da_nil)) da_nil))))))))
    (ds_one (ds_ret (d_sort hK t.sm (units80 room.r) rfl t.n_sorted (da_cons (d_var (pv 4)) da_nil)))))))
def T__law_tiny : TDS := (dSeq (dAsg (dLcR (dCons (dC (.int 5)) dNil) 2 (dTest (dBin gNe (dBin gIx (dVar 0) (dVar 2)) (dC (.int 0)))) (dVar 2)) (dgName 1))
    (dSeq (dIfS (dTest (dBin gEq (dVar 1) (dLst dNil)))
    (dRet (dBin gMulA (dLst (dCons (dTup (dCons (dC (.int 0)) (dCons (dC (.int 0)) dNil))) dNil)) (dC (.int 5))))
    dNext)
    (dSeq (dIfS (dTest (dBin gEq (dCB gLen (dCons (dVar 1) dNil)) (dC (.int 1))))
    (dRet (dCall 3 tf__law_keys (dCons (dTup (dCons (dBin gIx (dVar 0) (dBin gIx (dVar 1) (dC (.int 0)))) (dCons (dC (.int 0)) dNil))) (dCons (dTup (dCons (dC (.int 0)) (dCons (dC (.int 0)) dNil))) (dCons (dBin gIx (dVar 1) (dC (.int 0))) dNil)))))
    dNext)
    (dSeq (dAsg (dLcR (dCons (dC (.int 5)) dNil) 4 dYes (dBin gAddA (dSl (dVar 0) (dPart (dVar 4)) dNoPart) (dSl (dVar 0) dNoPart (dPart (dVar 4))))) (dgName 3))
    (dSeq (dAsg (dBin gIx (dLcR (dCons (dC (.int 5)) dNil) 4 (dtAnd (dTest (dBin gEq (dBin gIx (dBin gIx (dVar 3) (dVar 4)) (dC (.int 2))) (dBin gIx (dBin gIx (dVar 3) (dVar 4)) (dC (.int 0))))) (dtAnd (dTest (dBin gEq (dBin gIx (dBin gIx (dVar 3) (dVar 4)) (dC (.int 3))) (dBin gIx (dBin gIx (dVar 3) (dVar 4)) (dC (.int 0))))) (dTest (dBin gNe (dBin gIx (dBin gIx (dVar 3) (dVar 4)) (dC (.int 1))) (dBin gIx (dBin gIx (dVar 3) (dVar 4)) (dC (.int 0))))))) (dVar 4)) (dC (.int 0))) (dgName 4))
    (dRet (dCall 3 tf__law_keys (dCons (dTup (dCons (dBin gMulA (dC (.int 5)) (dBin gIx (dVar 0) (dVar 4))) (dCons (dC (.int 0)) dNil))) (dCons (dTup (dCons (dBin gMulA (dUn gNeg (dC (.int 4))) (dBin gIx (dVar 0) (dVar 4))) (dCons (dC (.int 0)) dNil))) (dCons (dVar 4) dNil))))))))))
def tf__law_tiny : TF := fun _ ds Q => tfOf 5 T__law_tiny (fun _ => False) ds Q
theorem ok__law_tiny (t : Tx K mg) : FnG P w K mg base CX0 2 t.a__law_tiny t.d__law_tiny ["_law_side"] (spD K 1 tf__law_tiny) := by
  have sc := sc__law_tiny
  exact fng_data (N := ["_law_side", "_law_some", "_law_r", "_law_ringed", "_law_q"]) (T := T__law_tiny) t.F__law_tiny sc fun cdv A outer s H E F hK hF room =>
    (ds_cons (ds_setLcR hK rfl sc.nd (by rfl) t.n_range (da_cons d_int da_nil) (blkOk_by (own := [("_law_r", 2)]) (N := ["_law_side", "_law_some", "_law_r", "_law_ringed", "_law_q"]) (sc := defScope s__law_tiny) (by decide +kernel)) rfl (i := 1) rfl rfl (sw_true rfl rfl rfl (by decide +kernel)) (fun _ _ _ _ _ => pg_name (i := 2) sc.nd rfl (by first | exact Or.inl rfl | exact Or.inr rfl)) (fun _ _ _ _ _ => (dts_one (dt_ne hK room.r.units (d_ix hK (d_var (pv 0)) (d_var (pv 2)) (fun _ _ => rfl)) d_int))) (fun _ _ _ _ _ => (d_var (pv 2))))
    (ds_cons (ds_if (dt_eq hK room.r.units (d_var (pv 1)) (d_lst da_nil))
    (ds_one (ds_ret (d_mulA (d_lst (da_cons (d_tup (da_cons d_int (da_cons d_int da_nil))) da_nil)) d_int)))
    ds_nil)
    (ds_cons (ds_if (dt_eq hK room.r.units (d_callB (hK ▸ cd_len) call_len_seq rfl t.n_len (by decide +kernel) (da_cons (d_var (pv 1)) da_nil)) d_int)
    (ds_one (ds_ret (d_call (ok__law_keys t) hK (room.mono (by decide)) rfl t.m__law_keys t.F__law_keys.kp (b__law_keys t) (da_cons (d_tup (da_cons (d_ix hK (d_var (pv 0)) (d_ix hK (d_var (pv 1)) d_int (fun _ _ => rfl)) (fun _ _ => rfl)) (da_cons d_int da_nil))) (da_cons (d_tup (da_cons d_int (da_cons d_int da_nil))) (da_cons (d_ix hK (d_var (pv 1)) d_int (fun _ _ => rfl)) da_nil))))))
    ds_nil)
    (ds_cons (ds_set (i := 3) sc.nd rfl (by first | exact Or.inl rfl | exact Or.inr rfl) (d_lcR hK rfl sc.nd rfl t.n_range (da_cons d_int da_nil) (blkOk_by (own := [("_law_q", 4)]) (N := ["_law_side", "_law_some", "_law_r", "_law_ringed", "_law_q"]) (sc := defScope s__law_tiny) (by decide +kernel)) rfl (fun _ _ _ _ _ => pg_name (i := 4) sc.nd rfl (by first | exact Or.inl rfl | exact Or.inr rfl)) (fun _ _ _ _ _ => dts_nil) (fun _ _ _ _ _ => (d_addA hK (d_slice hK (d_var (pv 0)) (do_some (d_var (pv 4))) do_none) (d_slice hK (d_var (pv 0)) do_none (do_some (d_var (pv 4))))))))
    (ds_cons (ds_set (i := 4) sc.nd rfl (by first | exact Or.inl rfl | exact Or.inr rfl) (d_ix hK (d_lcR hK rfl sc.nd rfl t.n_range (da_cons d_int da_nil) (blkOk_by (own := [("_law_q", 4)]) (N := ["_law_side", "_law_some", "_law_r", "_law_ringed", "_law_q"]) (sc := defScope s__law_tiny) (by decide +kernel)) rfl (fun _ _ _ _ _ => pg_name (i := 4) sc.nd rfl (by first | exact Or.inl rfl | exact Or.inr rfl)) (fun _ _ _ _ _ => (dts_one (PW.pt (dw_and (dt_eq hK room.r.units (d_ix hK (d_ix hK (d_var (pv 3)) (d_var (pv 4)) (fun _ _ => rfl)) d_int (fun _ _ => rfl)) (d_ix hK (d_ix hK (d_var (pv 3)) (d_var (pv 4)) (fun _ _ => rfl)) d_int (fun _ _ => rfl))) (dw_and (dt_eq hK room.r.units (d_ix hK (d_ix hK (d_var (pv 3)) (d_var (pv 4)) (fun _ _ => rfl)) d_int (fun _ _ => rfl)) (d_ix hK (d_ix hK (d_var (pv 3)) (d_var (pv 4)) (fun _ _ => rfl)) d_int (fun _ _ => rfl))) (dw_and1 (dt_ne hK room.r.units (d_ix hK (d_ix hK (d_var (pv 3)) (d_var (pv 4)) (fun _ _ => rfl)) d_int (fun _ _ => rfl)) (d_ix hK (d_ix hK (d_var (pv 3)) (d_var (pv 4)) (fun _ _ => rfl)) d_int (fun _ _ => rfl))))))))) (fun _ _ _ _ _ => (d_var (pv 4)))) d_int (fun _ _ => rfl)))
    (ds_one (ds_ret (d_call (ok__law_keys t) hK (room.mono (by decide)) rfl t.m__law_keys t.F__law_keys.kp (b__law_keys t) (da_cons (d_tup (da_cons (d_mulA d_int (d_ix hK (d_var (pv 0)) (d_var (pv 4)) (fun _ _ => rfl))) (da_cons d_int da_nil))) (da_cons (d_tup (da_cons (d_mulA (d_neg d_int) (d_ix hK (d_var (pv 0)) (d_var (pv 4)) (fun _ _ => rfl))) (da_cons d_int da_nil))) (da_cons (d_var (pv 4)) da_nil)))))))))))
def T__law_world : TDS := (dSeq (dPar 1 2 (dCons (dCall 2 tf_draw (dCons (dVar 0) (dCons (dC (.int 5)) dNil))) (dCons (dCall 2 tf_draw (dCons (dVar 0) (dCons (dC (.int 8)) dNil))) dNil)))
    (dSeq (dAsg (dCall 2 tf__law_pick (dCons (dVar 0) (dCons (dTup (dCons (dC (.int 3)) (dCons (dC (.int 1)) (dCons (dC (.int 2)) (dCons (dC (.int 5)) (dCons (dC (.int 4)) (dCons (dC (.int 7)) (dCons (dC (.int 6)) (dCons (dC (.int 8)) (dCons (dC (.int 9)) (dCons (dC (.int 10)) (dCons (dC (.int 11)) (dCons (dC (.int 12)) (dCons (dC (.int 3)) (dCons (dC (.int 2)) (dCons (dC (.int 1)) (dCons (dC (.int 5)) dNil))))))))))))))))) dNil))) (dgName 3))
    (dSeq (dIfS (dTest (dBin gEq (dVar 2) (dC (.int 7))))
    (dAsg (dBin gAddA (dC (.int 2)) (dCB gAbs (dCons (dCall 2 tf__law_integer (dCons (dVar 0) (dCons (dC (.int 10)) dNil))) dNil))) (dgName 3))
    dNext)
    (dSeq (dOwn (lLst dNil) 4)
    (dSeq (dForR (dCons (dC (.int 2)) dNil) (dgName 5)
    (dSeq (dPar 6 7 (dCons (dCall 2 tf_draw (dCons (dVar 0) (dCons (dBin gPow (dC (.int 10)) (dC (.int 6))) dNil))) (dCons (dCall 2 tf_draw (dCons (dVar 0) (dCons (dBin gPow (dC (.int 10)) (dC (.int 6))) dNil))) dNil)))
    (dSeq (dIfS (dTest (dBin gGt (dVar 3) (dC (.int 100000))))
    (dPar 6 7 (dCons (dCB gAbs (dCons (dCall 2 tf__law_integer (dCons (dVar 0) (dCons (dC (.int 10)) dNil))) dNil)) (dCons (dCB gAbs (dCons (dCall 2 tf__law_integer (dCons (dVar 0) (dCons (dC (.int 10)) dNil))) dNil)) dNil)))
    dNext)
    (dSeq (dPar 6 7 (dCons (dBin gSub (dBin gMod (dCB gInt (dCons (dVar 6) dNil)) (dBin gMulA (dC (.int 8)) (dVar 3))) (dBin gMulA (dC (.int 4)) (dVar 3))) (dCons (dBin gSub (dBin gMod (dCB gInt (dCons (dVar 7) dNil)) (dBin gMulA (dC (.int 8)) (dVar 3))) (dBin gMulA (dC (.int 4)) (dVar 3))) dNil)))
    (dSeq (dIfS (dtAnd (dTest (dBin gEq (dVar 5) (dC (.int 0)))) (dTest (dBin gEq (dVar 2) (dC (.int 1)))))
    (dPar 6 7 (dCons (dBin gMulA (dVar 3) (dBin gSub (dBin gMod (dCB gInt (dCons (dVar 6) dNil)) (dC (.int 7))) (dC (.int 3)))) (dCons (dBin gMulA (dVar 3) (dBin gSub (dBin gMod (dCB gInt (dCons (dVar 7) dNil)) (dC (.int 7))) (dC (.int 3)))) dNil)))
    dNext)
    (dSeq (dIfS (dTest (dBin gEq (dCall 2 tf_draw (dCons (dVar 0) (dCons (dC (.int 5)) dNil))) (dC (.int 0))))
    (dPar 6 7 (dCons (dBin gAddA (dVar 6) (dBin gMulA (dVar 3) (dCall 2 tf__law_integer (dCons (dVar 0) (dCons (dC (.int 8)) dNil))))) (dCons (dBin gAddA (dVar 7) (dBin gMulA (dVar 3) (dCall 2 tf__law_integer (dCons (dVar 0) (dCons (dC (.int 8)) dNil))))) dNil)))
    dNext)
    (dApp 4 (dTup (dCons (dVar 6) (dCons (dVar 7) dNil))))))))))
    (dFreeze 4 (dSeq (dAsg (dCall 3 tf__law_keys (dCons (dBin gIx (dVar 4) (dC (.int 0))) (dCons (dBin gIx (dVar 4) (dC (.int 1))) (dCons (dVar 1) dNil)))) (dgName 8))
    (dSeq (dAsg (dLcR (dCons (dC (.int 5)) dNil) 10 (dtAnd (dTest (dBin gEq (dBin gMod (dCB gInt (dCons (dBin gIx (dBin gIx (dVar 8) (dVar 10)) (dC (.int 0))) dNil)) (dVar 3)) (dC (.int 0)))) (dTest (dBin gEq (dBin gMod (dCB gInt (dCons (dBin gIx (dBin gIx (dVar 8) (dVar 10)) (dC (.int 1))) dNil)) (dVar 3)) (dC (.int 0))))) (dVar 10)) (dgName 9))
    (dSeq (dAsg (dCall 2 tf__law_pick (dCons (dVar 0) (dCons (dCall 1 tf__law_sides (dCons (dVar 9) dNil)) dNil))) (dgName 11))
    (dRet (dDictN [.inr "d", .inr "keys", .inr "side", .inr "tiny"] [(dVar 3), (dVar 8), (dVar 11), (dCall 1 tf__law_tiny (dCons (dVar 11) dNil))])))))))))))
def tf__law_world : TF := fun _ ds Q => tfOf 12 T__law_world (fun _ => False) ds Q
theorem ok__law_world (t : Tx K mg) : FnG P w K mg base CX0 3 t.a__law_world t.d__law_world ["_law_deck_here"] (spD K 1 tf__law_world) := by
  have sc := sc__law_world
  exact fng_data (N := ["_law_deck_here", "_law_at", "_law_way", "_law_d", "_law_pairs", "_law_turn", "_law_a", "_law_b", "_law_keys_here", "_law_whole", "_law_r", "_law_side"]) (T := T__law_world) t.F__law_world sc fun cdv A outer s H E F hK hF room =>
    (ds_cons (ds_par (i := 1) (j := 2) rfl sc.nd rfl rfl (by decide) rfl rfl (da_cons (d_call (ok__law_draw t) hK (room.mono (by decide)) rfl t.m__law_draw t.F__law_draw.kp (b__law_draw t) (da_cons (d_var (pv 0)) (da_cons d_int da_nil))) (da_cons (d_call (ok__law_draw t) hK (room.mono (by decide)) rfl t.m__law_draw t.F__law_draw.kp (b__law_draw t) (da_cons (d_var (pv 0)) (da_cons d_int da_nil))) da_nil)))
    (ds_cons (ds_set (i := 3) sc.nd rfl (by first | exact Or.inl rfl | exact Or.inr rfl) (d_call (ok__law_pick t) hK (room.mono (by decide)) rfl t.m__law_pick t.F__law_pick.kp (b__law_pick t) (da_cons (d_var (pv 0)) (da_cons (d_tup (da_cons d_int (da_cons d_int (da_cons d_int (da_cons d_int (da_cons d_int (da_cons d_int (da_cons d_int (da_cons d_int (da_cons d_int (da_cons d_int (da_cons d_int (da_cons d_int (da_cons d_int (da_cons d_int (da_cons d_int (da_cons d_int da_nil))))))))))))))))) da_nil))))
    (ds_cons (ds_if (dt_eq hK room.r.units (d_var (pv 2)) d_int)
    (ds_one (ds_set (i := 3) sc.nd rfl (by first | exact Or.inl rfl | exact Or.inr rfl) (d_addA hK d_int (d_callB cd_abs call_abs rfl t.n_abs (by decide +kernel) (da_cons (d_call (ok__law_integer t) hK (room.mono (by decide)) rfl t.m__law_integer t.F__law_integer.kp (b__law_integer t) (da_cons (d_var (pv 0)) (da_cons d_int da_nil))) da_nil)))))
    ds_nil)
    (ds_cons (ds_own (i := 4) sc.nd rfl (by first | exact Or.inl rfl | exact Or.inr rfl) (l_lst da_nil))
    (ds_cons (ds_forR1 PassesOwn.never rfl rfl t.n_range (da_cons d_int da_nil) (dg_name (pg_name (i := 5) sc.nd rfl (by first | exact Or.inl rfl | exact Or.inr rfl)))
    (ds_cons (ds_par (i := 6) (j := 7) rfl sc.nd rfl rfl (by decide) rfl rfl (da_cons (d_call (ok__law_draw t) hK (room.mono (by decide)) rfl t.m__law_draw t.F__law_draw.kp (b__law_draw t) (da_cons (d_var (pv 0)) (da_cons (d_pow d_int d_int) da_nil))) (da_cons (d_call (ok__law_draw t) hK (room.mono (by decide)) rfl t.m__law_draw t.F__law_draw.kp (b__law_draw t) (da_cons (d_var (pv 0)) (da_cons (d_pow d_int d_int) da_nil))) da_nil)))
    (ds_cons (ds_if (dt_gt (d_var (pv 3)) d_int)
    (ds_one (ds_par (i := 6) (j := 7) rfl sc.nd rfl rfl (by decide) rfl rfl (da_cons (d_callB cd_abs call_abs rfl t.n_abs (by decide +kernel) (da_cons (d_call (ok__law_integer t) hK (room.mono (by decide)) rfl t.m__law_integer t.F__law_integer.kp (b__law_integer t) (da_cons (d_var (pv 0)) (da_cons d_int da_nil))) da_nil)) (da_cons (d_callB cd_abs call_abs rfl t.n_abs (by decide +kernel) (da_cons (d_call (ok__law_integer t) hK (room.mono (by decide)) rfl t.m__law_integer t.F__law_integer.kp (b__law_integer t) (da_cons (d_var (pv 0)) (da_cons d_int da_nil))) da_nil)) da_nil))))
    ds_nil)
    (ds_cons (ds_par (i := 6) (j := 7) rfl sc.nd rfl rfl (by decide) rfl rfl (da_cons (d_sub (d_mod (d_callTy cd_int call_int1 rfl t.n_int (by decide +kernel) (da_cons (d_var (pv 6)) da_nil)) (d_mulA d_int (d_var (pv 3)))) (d_mulA d_int (d_var (pv 3)))) (da_cons (d_sub (d_mod (d_callTy cd_int call_int1 rfl t.n_int (by decide +kernel) (da_cons (d_var (pv 7)) da_nil)) (d_mulA d_int (d_var (pv 3)))) (d_mulA d_int (d_var (pv 3)))) da_nil)))
    (ds_cons (ds_if (PW.pt (dw_and (dt_eq hK room.r.units (d_var (pv 5)) d_int) (dw_and1 (dt_eq hK room.r.units (d_var (pv 2)) d_int))))
    (ds_one (ds_par (i := 6) (j := 7) rfl sc.nd rfl rfl (by decide) rfl rfl (da_cons (d_mulA (d_var (pv 3)) (d_sub (d_mod (d_callTy cd_int call_int1 rfl t.n_int (by decide +kernel) (da_cons (d_var (pv 6)) da_nil)) d_int) d_int)) (da_cons (d_mulA (d_var (pv 3)) (d_sub (d_mod (d_callTy cd_int call_int1 rfl t.n_int (by decide +kernel) (da_cons (d_var (pv 7)) da_nil)) d_int) d_int)) da_nil))))
    ds_nil)
    (ds_cons (ds_if (dt_eq hK room.r.units (d_call (ok__law_draw t) hK (room.mono (by decide)) rfl t.m__law_draw t.F__law_draw.kp (b__law_draw t) (da_cons (d_var (pv 0)) (da_cons d_int da_nil))) d_int)
    (ds_one (ds_par (i := 6) (j := 7) rfl sc.nd rfl rfl (by decide) rfl rfl (da_cons (d_addA hK (d_var (pv 6)) (d_mulA (d_var (pv 3)) (d_call (ok__law_integer t) hK (room.mono (by decide)) rfl t.m__law_integer t.F__law_integer.kp (b__law_integer t) (da_cons (d_var (pv 0)) (da_cons d_int da_nil))))) (da_cons (d_addA hK (d_var (pv 7)) (d_mulA (d_var (pv 3)) (d_call (ok__law_integer t) hK (room.mono (by decide)) rfl t.m__law_integer t.F__law_integer.kp (b__law_integer t) (da_cons (d_var (pv 0)) (da_cons d_int da_nil))))) da_nil))))
    ds_nil)
    (ds_one (ds_app hK (pv 4) (d_tup (da_cons (d_var (pv 6)) (da_cons (d_var (pv 7)) da_nil)))))))))))
    (dss_freeze (i := 4) (ds_cons (ds_set (i := 8) sc.nd rfl (by first | exact Or.inl rfl | exact Or.inr rfl) (d_call (ok__law_keys t) hK (room.mono (by decide)) rfl t.m__law_keys t.F__law_keys.kp (b__law_keys t) (da_cons (d_ix hK (d_var (pv 4)) d_int (fun _ _ => rfl)) (da_cons (d_ix hK (d_var (pv 4)) d_int (fun _ _ => rfl)) (da_cons (d_var (pv 1)) da_nil)))))
    (ds_cons (ds_setLcR hK rfl sc.nd (by rfl) t.n_range (da_cons d_int da_nil) (blkOk_by (own := [("_law_r", 10)]) (N := ["_law_deck_here", "_law_at", "_law_way", "_law_d", "_law_pairs", "_law_turn", "_law_a", "_law_b", "_law_keys_here", "_law_whole", "_law_r", "_law_side"]) (sc := defScope s__law_world) (by decide +kernel)) rfl (i := 9) rfl rfl (sw_true rfl rfl rfl (by decide +kernel)) (fun _ _ _ _ _ => pg_name (i := 10) sc.nd rfl (by first | exact Or.inl rfl | exact Or.inr rfl)) (fun _ _ _ _ _ => (dts_one (PW.pt (dw_and (dt_eq hK room.r.units (d_mod (d_callTy cd_int call_int1 rfl t.n_int (by decide +kernel) (da_cons (d_ix hK (d_ix hK (d_var (pv 8)) (d_var (pv 10)) (fun _ _ => rfl)) d_int (fun _ _ => rfl)) da_nil)) (d_var (pv 3))) d_int) (dw_and1 (dt_eq hK room.r.units (d_mod (d_callTy cd_int call_int1 rfl t.n_int (by decide +kernel) (da_cons (d_ix hK (d_ix hK (d_var (pv 8)) (d_var (pv 10)) (fun _ _ => rfl)) d_int (fun _ _ => rfl)) da_nil)) (d_var (pv 3))) d_int)))))) (fun _ _ _ _ _ => (d_var (pv 10))))
    (ds_cons (ds_set (i := 11) sc.nd rfl (by first | exact Or.inl rfl | exact Or.inr rfl) (d_call (ok__law_pick t) hK (room.mono (by decide)) rfl t.m__law_pick t.F__law_pick.kp (b__law_pick t) (da_cons (d_var (pv 0)) (da_cons (d_call (ok__law_sides t) hK (room.mono (by decide)) rfl t.m__law_sides t.F__law_sides.kp (b__law_sides t) (da_cons (d_var (pv 9)) da_nil)) da_nil))))
    (ds_one (ds_ret (by refine d_dictN (ks := [.inr "d", .inr "keys", .inr "side", .inr "tiny"]) (Ts := [(dVar 3), (dVar 8), (dVar 11), (dCall 1 tf__law_tiny (dCons (dVar 11) dNil))]) ?_ rfl (by decide) (fun vs h => match vs, h with | [_, _, _, _], _ => rfl); refine pps_cons pe_str ?_ ?_; show PE _ _ (tD F (dVar 3)); exact (d_var (pv 3)); refine pps_cons pe_str ?_ ?_; show PE _ _ (tD F (dVar 8)); exact (d_var (pv 8)); refine pps_cons pe_str ?_ ?_; show PE _ _ (tD F (dVar 11)); exact (d_var (pv 11)); refine pps_cons pe_str ?_ ?_; show PE _ _ (tD F (dCall 1 tf__law_tiny (dCons (dVar 11) dNil))); exact (d_call (ok__law_tiny t) hK (room.mono (by decide)) rfl t.m__law_tiny t.F__law_tiny.kp (b__law_tiny t) (da_cons (d_var (pv 11)) da_nil)); exact pps_nil))))))))))))
def T__law_same : TDS := (dRet (dBin gEq (dCB gReprU (dCons (dVar 0) dNil)) (dCB gReprU (dCons (dVar 1) dNil))))
def tf__law_same : TF := fun _ ds Q => tfOf 2 T__law_same (fun _ => False) ds Q
theorem ok__law_same (t : Tx K mg) : FnG P w K mg base CX0 1 t.a__law_same t.d__law_same ["_law_told", "_law_due"] (spD K 2 tf__law_same) := by
  have sc := sc__law_same
  exact fng_data (N := ["_law_told", "_law_due"]) (T := T__law_same) t.F__law_same sc fun cdv A outer s H E F hK hF room =>
    (ds_one (ds_ret (d_eq hK room.r.units (d_reprU hK (hK ▸ t.mx) t.sm room.g (units80 room.r) rfl t.n_repr (da_cons (d_var (pv 0)) da_nil)) (d_reprU hK (hK ▸ t.mx) t.sm room.g (units80 room.r) rfl t.n_repr (da_cons (d_var (pv 1)) da_nil)))))
def T__law_power : TDS := (dSeq (dAsg (dTup (dCons (dC (.int 1)) (dCons (dC (.int 0)) dNil))) (dgTup 2 (dgCons (dgName 1) (dgCons (dgName 2) dgNil))))
    (dSeq (dForR (dCons (dCB gAbs (dCons (dVar 0) dNil)) dNil) (dgName 3)
    (dAsg (dIf (dTest (dBin gGt (dVar 0) (dC (.int 0)))) (dTup (dCons (dVar 2) (dCons (dBin gAddA (dVar 1) (dVar 2)) dNil))) (dTup (dCons (dBin gSub (dVar 2) (dVar 1)) (dCons (dVar 1) dNil)))) (dgTup 2 (dgCons (dgName 1) (dgCons (dgName 2) dgNil)))))
    (dRet (dTup (dCons (dVar 1) (dCons (dVar 2) dNil))))))
def tf__law_power : TF := fun _ ds Q => tfOf 4 T__law_power (fun _ => False) ds Q
theorem ok__law_power (t : Tx K mg) : FnG P w K mg base CX0 1 t.a__law_power t.d__law_power ["_law_n"] (spD K 1 tf__law_power) := by
  have sc := sc__law_power
  exact fng_data (N := ["_law_n", "_law_a", "_law_b", "_law_turn"]) (T := T__law_power) t.F__law_power sc fun cdv A outer s H E F hK hF room =>
    (ds_cons (ds_asg (d_tup (da_cons d_int (da_cons d_int da_nil))) (dg_tup hK rfl (dgs_cons (dg_name (pg_name (i := 1) sc.nd rfl (by first | exact Or.inl rfl | exact Or.inr rfl))) (dgs_cons (dg_name (pg_name (i := 2) sc.nd rfl (by first | exact Or.inl rfl | exact Or.inr rfl))) dgs_nil))))
    (ds_cons (ds_forR1 PassesOwn.never rfl rfl t.n_range (da_cons (d_callB cd_abs call_abs rfl t.n_abs (by decide +kernel) (da_cons (d_var (pv 0)) da_nil)) da_nil) (dg_name (pg_name (i := 3) sc.nd rfl (by first | exact Or.inl rfl | exact Or.inr rfl)))
    (ds_one (ds_asg (d_if (dt_gt (d_var (pv 0)) d_int) (d_tup (da_cons (d_var (pv 2)) (da_cons (d_addA hK (d_var (pv 1)) (d_var (pv 2))) da_nil))) (d_tup (da_cons (d_sub (d_var (pv 2)) (d_var (pv 1))) (da_cons (d_var (pv 1)) da_nil)))) (dg_tup hK rfl (dgs_cons (dg_name (pg_name (i := 1) sc.nd rfl (by first | exact Or.inl rfl | exact Or.inr rfl))) (dgs_cons (dg_name (pg_name (i := 2) sc.nd rfl (by first | exact Or.inl rfl | exact Or.inr rfl))) dgs_nil))))))
    (ds_one (ds_ret (d_tup (da_cons (d_var (pv 1)) (da_cons (d_var (pv 2)) da_nil)))))))
def T__law_times : TDS := (dRet (dCall 3 tf__law_least (dCons (dBin gAddA (dBin gMulA (dBin gIx (dVar 0) (dC (.int 0))) (dVar 1)) (dBin gMulA (dBin gIx (dVar 0) (dC (.int 1))) (dVar 2))) (dCons (dBin gAddA (dBin gAddA (dBin gMulA (dBin gIx (dVar 0) (dC (.int 0))) (dVar 2)) (dBin gMulA (dBin gIx (dVar 0) (dC (.int 1))) (dVar 1))) (dBin gMulA (dBin gIx (dVar 0) (dC (.int 1))) (dVar 2))) (dCons (dBin gIx (dVar 0) (dC (.int 2))) dNil)))))
def tf__law_times : TF := fun _ ds Q => tfOf 3 T__law_times (fun _ => False) ds Q
theorem ok__law_times (t : Tx K mg) : FnG P w K mg base CX0 3 t.a__law_times t.d__law_times ["_law_p", "_law_a", "_law_b"] (spD K 3 tf__law_times) := by
  have sc := sc__law_times
  exact fng_data (N := ["_law_p", "_law_a", "_law_b"]) (T := T__law_times) t.F__law_times sc fun cdv A outer s H E F hK hF room =>
    (ds_one (ds_ret (d_call (ok__law_least t) hK (room.mono (by decide)) rfl t.m__law_least t.F__law_least.kp (b__law_least t) (da_cons (d_addA hK (d_mulA (d_ix hK (d_var (pv 0)) d_int (fun _ _ => rfl)) (d_var (pv 1))) (d_mulA (d_ix hK (d_var (pv 0)) d_int (fun _ _ => rfl)) (d_var (pv 2)))) (da_cons (d_addA hK (d_addA hK (d_mulA (d_ix hK (d_var (pv 0)) d_int (fun _ _ => rfl)) (d_var (pv 2))) (d_mulA (d_ix hK (d_var (pv 0)) d_int (fun _ _ => rfl)) (d_var (pv 1)))) (d_mulA (d_ix hK (d_var (pv 0)) d_int (fun _ _ => rfl)) (d_var (pv 2)))) (da_cons (d_ix hK (d_var (pv 0)) d_int (fun _ _ => rfl)) da_nil))))))
theorem kb_power_n (t : Tx K mg) : KB t.d_power ["n"] ["n"] [0] := kb_of t.F_power fun _ _ _ _ _ _ ws hl => match ws, hl with | [_], _ => rfl
def T__law_refused : TDS := (dSeq (dTryN [⟨mm_BadPower, some 3, fun a y => (dSeq (dAsg (dOr (dIsX a y 3 is_BadNumber) (dOr (dIsX a y 3 is_BadCount) (dNot (dIsX a y 3 is_FloorError)))) (dgName 4)) (dRet (dIf (dTruI (dVar 4)) (dTup (dCons (dC (.str "both")) (dCons (dC .non) dNil))) (dTup (dCons (dC (.str "power")) (dCons (dXf a y 3 "thing") dNil))))))⟩,
      ⟨mm_FloorError, none, fun a y => (dRet (dTup (dCons (dC (.str "other")) (dCons (dC .non) dNil))))⟩]
    (dAsg (dIf (dTruI (dVar 1)) (dCallKX 1 1 [0] tf_power (dCons (dVar 0) dNil)) (dCallX 1 tf_power (dCons (dVar 0) dNil))) (dgName 2)))
    (dRet (dIf (dTest (dUn (gIs .tuple) (dVar 2))) (dC .non) (dTup (dCons (dC (.str "told")) (dCons (dVar 2) dNil))))))
def tf__law_refused : TF := fun _ ds Q => tfOf 5 T__law_refused (fun _ => False) ds Q
theorem ok__law_refused (t : Tx K mg) : FnG P w K mg base CX0 3 t.a__law_refused t.d__law_refused ["_law_thing", "_law_is_named"] (spD K 2 tf__law_refused) := by
  have sc := sc__law_refused
  exact fng_data (N := ["_law_thing", "_law_is_named", "_law_told", "_law_e", "_law_is_other"]) (T := T__law_refused) t.F__law_refused sc fun cdv A outer s H E F hK hF room =>
    (ds_cons (ds_tryN hK rfl rfl sc.nd takes_none5 (wok_none hF) (fun W pn xe F' tk' po' sub' wo' => have hK := sub'.k.trans hK
    (ds_one (ds_set (i := 2) sc.nd rfl (by first | exact Or.inl rfl | exact Or.inr rfl) (d_if (dt_tru (d_var (pv 1))) (d_callKX (ok_power t) tk' wo' hK (room.mono (by decide)) rfl t.m_power t.F_power.kp (kb_power_n t) (dk_cons (d_var (pv 0)) dk_nil)) (d_callX (ok_power t) tk' wo' hK (room.mono (by decide)) rfl t.m_power t.F_power.kp (b_power t) (da_cons (d_var (pv 0)) da_nil))))))
    (.named (i := 3) (cl := ⟨mm_BadPower, some 3, fun a y => (dSeq (dAsg (dOr (dIsX a y 3 is_BadNumber) (dOr (dIsX a y 3 is_BadCount) (dNot (dIsX a y 3 is_FloorError)))) (dgName 4)) (dRet (dIf (dTruI (dVar 4)) (dTup (dCons (dC (.str "both")) (dCons (dC .non) dNil))) (dTup (dCons (dC (.str "power")) (dCons (dXf a y 3 "thing") dNil))))))⟩) rfl rfl ⟨rfl, by decide, .inl t.R_BadPower.2⟩ rfl (hm_BadPower t) (fun a oe cls d pn y F' hz hv S => have hKo := hK; have hK := S.k.trans hK; (by (dsimp only; refine ds_cons ?_ ?_; exact (ds_set (i := 4) sc.nd rfl (by first | exact Or.inl rfl | exact Or.inr rfl) (d_or (d_isX hKo S hz hv (es_BadPower t S.m) (pv 3) (kt_BadNumber t _) (by rfl) t.n_isinstance (by rfl) t.R_BadNumber.2) (d_or (d_isX hKo S hz hv (es_BadPower t S.m) (pv 3) (kt_BadCount t _) (by rfl) t.n_isinstance (by rfl) t.R_BadCount.2) (d_one (d_not (d_isX hKo S hz hv (es_BadPower t S.m) (pv 3) (kt_FloorError t _) (by rfl) t.n_isinstance (by rfl) t.R_FloorError.2)))))); exact (by exact (ds_one (ds_ret (d_if (dt_tru (d_var (pv 4))) (d_tup (da_cons d_str (da_cons d_non da_nil))) (d_tup (da_cons d_str (da_cons (d_xf hKo S hz hv (xf_BadPower t S.m) (pv 3)) da_nil))))))))))
    (.one (cl := ⟨mm_FloorError, none, fun a y => (dRet (dTup (dCons (dC (.str "other")) (dCons (dC .non) dNil))))⟩) ⟨rfl, by decide, .inl t.R_FloorError.2⟩ rfl (hm_FloorError t) (fun a oe cls d pn y F' hz hv S => have hKo := hK; have hK := S.k.trans hK; (ds_one (ds_ret (d_tup (da_cons d_str (da_cons d_non da_nil)))))) .nil)))
    (ds_one (ds_ret (d_if (dt_val (d_isi (T := .tuple) hK rfl t.n_isinstance rfl t.n_tuple (by decide +kernel) (d_var (pv 2)))) d_non (d_tup (da_cons d_str (da_cons (d_var (pv 2)) da_nil)))))))
def T__law_odd : TDS := (dSeq (dAsg (dLst (dCons (dC (.int 2001)) (dCons (dUn gNeg (dC (.int 2001))) (dCons (dC (.int 2000)) (dCons (dUn gNeg (dC (.int 2000))) (dCons (dC (.bl true)) (dCons (dC (.bl false)) (dCons (dC .non) (dCons (dC (.str "2")) (dCons (dC (.str "")) (dCons (dTup dNil) (dCons (dTup (dCons (dVar 1) dNil)) (dCons (dLst (dCons (dVar 1) dNil)) (dCons (dDictV (dVar 1) (dVar 1)) (dCons (dC (.dct [] [])) (dCons (dTup (dCons (dC (.int 0)) (dCons (dC (.int 1)) (dCons (dC (.int 1)) dNil)))) (dCons (dTup (dCons (dVar 1) (dCons (dC (.int 0)) (dCons (dC (.int 1)) dNil)))) (dCons (dCB gStr (dCons (dVar 1) dNil)) dNil)))))))))))))))))) (dgName 2))
    (dSeq (dAsg (dBin gAddA (dVar 2) (dLst (dCons (dUn gNinesB (dC (.int 100))) (dCons (dUn gNeg (dUn gNinesB (dC (.int 100)))) (dCons (dBin gAddA (dVar 1) (dC (.int 4001))) (dCons (dBin gSub (dVar 1) (dC (.int 4001))) (dCons (dLst dNil) (dCons (dVar 1) (dCons (dUn gNeg (dVar 1)) (dCons (dTup (dCons (dC .non) (dCons (dVar 1) dNil))) (dCons (dTup (dCons (dTup (dCons (dVar 1) dNil)) (dCons (dVar 1) dNil))) (dCons (dC (.str "power\n~")) dNil)))))))))))) (dgName 2))
    (dRet (dCall 2 tf__law_pick (dCons (dVar 0) (dCons (dVar 2) dNil))))))
def tf__law_odd : TF := fun _ ds Q => tfOf 3 T__law_odd (fun _ => False) ds Q
theorem ok__law_odd (t : Tx K mg) : FnG P w K mg base CX0 3 t.a__law_odd t.d__law_odd ["_law_deck_here", "_law_n"] (spD K 2 tf__law_odd) := by
  have sc := sc__law_odd
  exact fng_data (N := ["_law_deck_here", "_law_n", "_law_some"]) (T := T__law_odd) t.F__law_odd sc fun cdv A outer s H E F hK hF room =>
    (ds_cons (ds_set (i := 2) sc.nd rfl (by first | exact Or.inl rfl | exact Or.inr rfl) (d_lst (da_cons d_int (da_cons (d_neg d_int) (da_cons d_int (da_cons (d_neg d_int) (da_cons d_bl (da_cons d_bl (da_cons d_non (da_cons d_str (da_cons d_str (da_cons (d_tup da_nil) (da_cons (d_tup (da_cons (d_var (pv 1)) da_nil)) (da_cons (d_lst (da_cons (d_var (pv 1)) da_nil)) (da_cons (d_dictV (d_var (pv 1)) (d_var (pv 1))) (da_cons d_dict0 (da_cons (d_tup (da_cons d_int (da_cons d_int (da_cons d_int da_nil)))) (da_cons (d_tup (da_cons (d_var (pv 1)) (da_cons d_int (da_cons d_int da_nil)))) (da_cons (d_callTy cd_str call_str_int rfl t.n_str (by decide +kernel) (da_cons (d_var (pv 1)) da_nil)) da_nil)))))))))))))))))))
    (ds_cons (ds_set (i := 2) sc.nd rfl (by first | exact Or.inl rfl | exact Or.inr rfl) (d_addA hK (d_var (pv 2)) (d_lst (da_cons (d_ninesB (hK ▸ t.mx) rfl t.n_int d_int) (da_cons (d_neg (d_ninesB (hK ▸ t.mx) rfl t.n_int d_int)) (da_cons (d_addA hK (d_var (pv 1)) d_int) (da_cons (d_sub (d_var (pv 1)) d_int) (da_cons (d_lst da_nil) (da_cons (d_var (pv 1)) (da_cons (d_neg (d_var (pv 1))) (da_cons (d_tup (da_cons d_non (da_cons (d_var (pv 1)) da_nil))) (da_cons (d_tup (da_cons (d_tup (da_cons (d_var (pv 1)) da_nil)) (da_cons (d_var (pv 1)) da_nil))) (da_cons d_str da_nil)))))))))))))
    (ds_one (ds_ret (d_call (ok__law_pick t) hK (room.mono (by decide)) rfl t.m__law_pick t.F__law_pick.kp (b__law_pick t) (da_cons (d_var (pv 0)) (da_cons (d_var (pv 2)) da_nil)))))))
def T__law_is_integer : TDS := (dRet (dAnd (dUn (gIs .int) (dVar 0)) (dAnd (dNot (dUn (gIs .bool) (dVar 0))) (dAnd (dBin gGe (dVar 0) (dVar 1)) (dBin gLe (dVar 0) (dVar 2))))))
def tf__law_is_integer : TF := fun _ ds Q => tfOf 3 T__law_is_integer (fun _ => False) ds Q
theorem ok__law_is_integer (t : Tx K mg) : FnG P w K mg base CX0 1 t.a__law_is_integer t.d__law_is_integer ["_law_thing", "_law_least_here", "_law_most"] (spD K 3 tf__law_is_integer) := by
  have sc := sc__law_is_integer
  exact fng_data (N := ["_law_thing", "_law_least_here", "_law_most"]) (T := T__law_is_integer) t.F__law_is_integer sc fun cdv A outer s H E F hK hF room =>
    (ds_one (ds_ret (d_and (d_isi (T := .int) hK rfl t.n_isinstance rfl t.n_int (by decide +kernel) (d_var (pv 0))) (d_and (d_not (d_isi (T := .bool) hK rfl t.n_isinstance rfl t.n_bool (by decide +kernel) (d_var (pv 0)))) (d_and (d_ge (d_var (pv 0)) (d_var (pv 1))) (d_one (d_le (d_var (pv 0)) (d_var (pv 2)))))))))
def T__law_exponent : TDS := (dSeq (dPar 1 2 (dCons (dCall 2 tf_draw (dCons (dVar 0) (dCons (dC (.int 6)) dNil))) (dCons (dBin gSub (dC (.int 1)) (dBin gMulA (dC (.int 2)) (dCall 2 tf_draw (dCons (dVar 0) (dCons (dC (.int 2)) dNil))))) dNil)))
    (dRet (dBin gMulA (dVar 2) (dIf (dTest (dBin gLt (dVar 1) (dC (.int 2)))) (dCall 2 tf_draw (dCons (dVar 0) (dCons (dC (.int 12)) dNil))) (dIf (dTest (dBin gEq (dVar 1) (dC (.int 2)))) (dBin gSub (dC (.int 2000)) (dCall 2 tf_draw (dCons (dVar 0) (dCons (dC (.int 3)) dNil)))) (dCall 2 tf_draw (dCons (dVar 0) (dCons (dC (.int 2001)) dNil))))))))
def tf__law_exponent : TF := fun _ ds Q => tfOf 3 T__law_exponent (fun _ => False) ds Q
theorem ok__law_exponent (t : Tx K mg) : FnG P w K mg base CX0 2 t.a__law_exponent t.d__law_exponent ["_law_deck_here"] (spD K 1 tf__law_exponent) := by
  have sc := sc__law_exponent
  exact fng_data (N := ["_law_deck_here", "_law_way", "_law_facing"]) (T := T__law_exponent) t.F__law_exponent sc fun cdv A outer s H E F hK hF room =>
    (ds_cons (ds_par (i := 1) (j := 2) rfl sc.nd rfl rfl (by decide) rfl rfl (da_cons (d_call (ok__law_draw t) hK (room.mono (by decide)) rfl t.m__law_draw t.F__law_draw.kp (b__law_draw t) (da_cons (d_var (pv 0)) (da_cons d_int da_nil))) (da_cons (d_sub d_int (d_mulA d_int (d_call (ok__law_draw t) hK (room.mono (by decide)) rfl t.m__law_draw t.F__law_draw.kp (b__law_draw t) (da_cons (d_var (pv 0)) (da_cons d_int da_nil))))) da_nil)))
    (ds_one (ds_ret (d_mulA (d_var (pv 2)) (d_if (dt_lt (d_var (pv 1)) d_int) (d_call (ok__law_draw t) hK (room.mono (by decide)) rfl t.m__law_draw t.F__law_draw.kp (b__law_draw t) (da_cons (d_var (pv 0)) (da_cons d_int da_nil))) (d_if (dt_eq hK room.r.units (d_var (pv 1)) d_int) (d_sub d_int (d_call (ok__law_draw t) hK (room.mono (by decide)) rfl t.m__law_draw t.F__law_draw.kp (b__law_draw t) (da_cons (d_var (pv 0)) (da_cons d_int da_nil)))) (d_call (ok__law_draw t) hK (room.mono (by decide)) rfl t.m__law_draw t.F__law_draw.kp (b__law_draw t) (da_cons (d_var (pv 0)) (da_cons d_int da_nil)))))))))
def T__law_are_powers_right : TDS := (dSeq (dAsg (dTup (dCons (dCall 1 tf__law_power (dCons (dVar 1) dNil)) (dCons (dTup (dCons (dCall 2 tf__law_integer (dCons (dVar 0) (dCons (dC (.int 5)) dNil))) (dCons (dCall 2 tf__law_integer (dCons (dVar 0) (dCons (dC (.int 5)) dNil))) (dCons (dBin gAddA (dC (.int 1)) (dCall 2 tf_draw (dCons (dVar 0) (dCons (dC (.int 12)) dNil)))) dNil)))) dNil))) (dgTup 2 (dgCons (dgTup 2 (dgCons (dgName 3) (dgCons (dgName 4) dgNil))) (dgCons (dgName 5) dgNil))))
    (dSeq (dAsg (dTup (dCons (dTup (dCons (dVar 3) (dCons (dVar 4) (dCons (dC (.int 1)) dNil)))) (dCons (dCall 1 tf__law_power (dCons (dVar 2) dNil)) (dCons (dCallX 1 tf_power (dCons (dVar 1) dNil)) (dCons (dCallX 1 tf_power (dCons (dVar 2) dNil)) dNil))))) (dgTup 4 (dgCons (dgName 6) (dgCons (dgName 7) (dgCons (dgName 8) (dgCons (dgName 9) dgNil))))))
    (dSeq (dIfS (dtNot (dTest (dCall 2 tf__law_same (dCons (dTup (dCons (dVar 8) (dCons (dCallKX 1 1 [0] tf_power (dCons (dVar 1) dNil)) (dCons (dCallX 1 tf_sign (dCons (dVar 8) dNil)) (dCons (dVar 9) dNil))))) (dCons (dTup (dCons (dVar 6) (dCons (dVar 6) (dCons (dC (.int 1)) (dCons (dBin gAddA (dVar 7) (dTup (dCons (dC (.int 1)) dNil))) dNil))))) dNil)))))
    (dRet (dC (.bl false)))
    dNext)
    (dSeq (dIfS (dtNot (dTest (dCall 2 tf__law_same (dCons (dCallX 1 tf_conjugate (dCons (dVar 8) dNil)) (dCons (dTup (dCons (dBin gAddA (dVar 3) (dVar 4)) (dCons (dUn gNeg (dVar 4)) (dCons (dC (.int 1)) dNil)))) dNil)))))
    (dRet (dC (.bl false)))
    dNext)
    (dSeq (dAsg (dIf (dTest (dBin gGt (dVar 1) (dC (.int 0)))) (dBin gSub (dBin gAddA (dBin gMulA (dC (.int 2)) (dVar 3)) (dVar 4)) (dCB gInt (dCons (dBin gEq (dBin gMod (dCB gInt (dCons (dVar 1) dNil)) (dC (.int 2))) (dC (.int 0))) dNil))) (dCB gInt (dCons (dBin gEq (dVar 1) (dC (.int 0))) dNil))) (dgName 10))
    (dSeq (dIfS (dtNot (dTest (dCall 2 tf__law_same (dCons (dTup (dCons (dCallX 1 tf_integer_below (dCons (dVar 8) dNil)) (dCons (dCallX 1 tf_integer_above (dCons (dVar 8) dNil)) dNil))) (dCons (dTup (dCons (dVar 10) (dCons (dBin gAddA (dVar 10) (dCB gInt (dCons (dBin gNe (dVar 1) (dC (.int 0))) dNil))) dNil))) dNil)))))
    (dRet (dC (.bl false)))
    dNext)
    (dSeq (dIfS (dtNot (dTest (dCall 2 tf__law_same (dCons (dTup (dCons (dCallX 2 tf_times (dCons (dVar 8) (dCons (dVar 9) dNil))) (dCons (dCallX 2 tf_times (dCons (dVar 5) (dCons (dVar 8) dNil))) dNil))) (dCons (dTup (dCons (dCall 3 tf__law_times (dCons (dTup (dCons (dVar 3) (dCons (dVar 4) (dCons (dC (.int 1)) dNil)))) (dCons (dBin gIx (dVar 7) (dC (.int 0))) (dCons (dBin gIx (dVar 7) (dC (.int 1))) dNil)))) (dCons (dCall 3 tf__law_times (dCons (dVar 5) (dCons (dVar 3) (dCons (dVar 4) dNil)))) dNil))) dNil)))))
    (dRet (dC (.bl false)))
    dNext)
    (dSeq (dIfS (dtAnd (dTest (dBin gLe (dCB gAbs (dCons (dBin gAddA (dVar 1) (dVar 2)) dNil)) (dC (.int 2000)))) (dtNot (dTest (dCall 2 tf__law_same (dCons (dCallX 2 tf_times (dCons (dVar 9) (dCons (dVar 8) dNil))) (dCons (dCallX 1 tf_power (dCons (dBin gAddA (dVar 1) (dVar 2)) dNil)) dNil))))))
    (dRet (dC (.bl false)))
    dNext)
    (dRet (dCall 2 tf__law_same (dCons (dTup (dCons (dCallX 2 tf_quotient (dCons (dTup (dCons (dC (.int 1)) (dCons (dC (.int 0)) (dCons (dC (.int 1)) dNil)))) (dCons (dVar 8) dNil))) (dCons (dCallX 2 tf_quotient (dCons (dCallX 2 tf_times (dCons (dVar 5) (dCons (dVar 8) dNil))) (dCons (dVar 8) dNil))) dNil))) (dCons (dTup (dCons (dBin gAddA (dCall 1 tf__law_power (dCons (dUn gNeg (dVar 1)) dNil)) (dTup (dCons (dC (.int 1)) dNil))) (dCons (dCall 3 tf__law_least (dCons (dBin gIx (dVar 5) (dC (.int 0))) (dCons (dBin gIx (dVar 5) (dC (.int 1))) (dCons (dBin gIx (dVar 5) (dC (.int 2))) dNil)))) dNil))) dNil))))))))))))
def tf__law_are_powers_right : TF := fun _ ds Q => tfOf 11 T__law_are_powers_right (fun _ => False) ds Q
theorem ok__law_are_powers_right (t : Tx K mg) : FnG P w K mg base CX0 6 t.a__law_are_powers_right t.d__law_are_powers_right ["_law_deck_here", "_law_n", "_law_m"] (spD K 3 tf__law_are_powers_right) := by
  have sc := sc__law_are_powers_right
  exact fng_data (N := ["_law_deck_here", "_law_n", "_law_m", "_law_a", "_law_b", "_law_p", "_law_due", "_law_far", "_law_near", "_law_other", "_law_low"]) (T := T__law_are_powers_right) t.F__law_are_powers_right sc fun cdv A outer s H E F hK hF room =>
    (ds_cons (ds_asg (d_tup (da_cons (d_call (ok__law_power t) hK (room.mono (by decide)) rfl t.m__law_power t.F__law_power.kp (b__law_power t) (da_cons (d_var (pv 1)) da_nil)) (da_cons (d_tup (da_cons (d_call (ok__law_integer t) hK (room.mono (by decide)) rfl t.m__law_integer t.F__law_integer.kp (b__law_integer t) (da_cons (d_var (pv 0)) (da_cons d_int da_nil))) (da_cons (d_call (ok__law_integer t) hK (room.mono (by decide)) rfl t.m__law_integer t.F__law_integer.kp (b__law_integer t) (da_cons (d_var (pv 0)) (da_cons d_int da_nil))) (da_cons (d_addA hK d_int (d_call (ok__law_draw t) hK (room.mono (by decide)) rfl t.m__law_draw t.F__law_draw.kp (b__law_draw t) (da_cons (d_var (pv 0)) (da_cons d_int da_nil)))) da_nil)))) da_nil))) (dg_tup hK rfl (dgs_cons (dg_tup hK rfl (dgs_cons (dg_name (pg_name (i := 3) sc.nd rfl (by first | exact Or.inl rfl | exact Or.inr rfl))) (dgs_cons (dg_name (pg_name (i := 4) sc.nd rfl (by first | exact Or.inl rfl | exact Or.inr rfl))) dgs_nil))) (dgs_cons (dg_name (pg_name (i := 5) sc.nd rfl (by first | exact Or.inl rfl | exact Or.inr rfl))) dgs_nil))))
    (ds_cons (ds_asg (d_tup (da_cons (d_tup (da_cons (d_var (pv 3)) (da_cons (d_var (pv 4)) (da_cons d_int da_nil)))) (da_cons (d_call (ok__law_power t) hK (room.mono (by decide)) rfl t.m__law_power t.F__law_power.kp (b__law_power t) (da_cons (d_var (pv 2)) da_nil)) (da_cons (d_callX (ok_power t) takes_none5 (wok_none hF) hK (room.mono (by decide)) rfl t.m_power t.F_power.kp (b_power t) (da_cons (d_var (pv 1)) da_nil)) (da_cons (d_callX (ok_power t) takes_none5 (wok_none hF) hK (room.mono (by decide)) rfl t.m_power t.F_power.kp (b_power t) (da_cons (d_var (pv 2)) da_nil)) da_nil))))) (dg_tup hK rfl (dgs_cons (dg_name (pg_name (i := 6) sc.nd rfl (by first | exact Or.inl rfl | exact Or.inr rfl))) (dgs_cons (dg_name (pg_name (i := 7) sc.nd rfl (by first | exact Or.inl rfl | exact Or.inr rfl))) (dgs_cons (dg_name (pg_name (i := 8) sc.nd rfl (by first | exact Or.inl rfl | exact Or.inr rfl))) (dgs_cons (dg_name (pg_name (i := 9) sc.nd rfl (by first | exact Or.inl rfl | exact Or.inr rfl))) dgs_nil))))))
    (ds_cons (ds_if (dt_not (dt_val (d_call (ok__law_same t) hK (room.mono (by decide)) rfl t.m__law_same t.F__law_same.kp (b__law_same t) (da_cons (d_tup (da_cons (d_var (pv 8)) (da_cons (d_callKX (ok_power t) takes_none5 (wok_none hF) hK (room.mono (by decide)) rfl t.m_power t.F_power.kp (kb_power_n t) (dk_cons (d_var (pv 1)) dk_nil)) (da_cons (d_callX (ok_sign t) takes_none5 (wok_none hF) hK (room.mono (by decide)) rfl t.m_sign t.F_sign.kp (b_sign t) (da_cons (d_var (pv 8)) da_nil)) (da_cons (d_var (pv 9)) da_nil))))) (da_cons (d_tup (da_cons (d_var (pv 6)) (da_cons (d_var (pv 6)) (da_cons d_int (da_cons (d_addA hK (d_var (pv 7)) (d_tup (da_cons d_int da_nil))) da_nil))))) da_nil)))))
    (ds_one (ds_ret d_bl))
    ds_nil)
    (ds_cons (ds_if (dt_not (dt_val (d_call (ok__law_same t) hK (room.mono (by decide)) rfl t.m__law_same t.F__law_same.kp (b__law_same t) (da_cons (d_callX (ok_conjugate t) takes_none5 (wok_none hF) hK (room.mono (by decide)) rfl t.m_conjugate t.F_conjugate.kp (b_conjugate t) (da_cons (d_var (pv 8)) da_nil)) (da_cons (d_tup (da_cons (d_addA hK (d_var (pv 3)) (d_var (pv 4))) (da_cons (d_neg (d_var (pv 4))) (da_cons d_int da_nil)))) da_nil)))))
    (ds_one (ds_ret d_bl))
    ds_nil)
    (ds_cons (ds_set (i := 10) sc.nd rfl (by first | exact Or.inl rfl | exact Or.inr rfl) (d_if (dt_gt (d_var (pv 1)) d_int) (d_sub (d_addA hK (d_mulA d_int (d_var (pv 3))) (d_var (pv 4))) (d_callTy cd_int call_int1 rfl t.n_int (by decide +kernel) (da_cons (d_eq hK room.r.units (d_mod (d_callTy cd_int call_int1 rfl t.n_int (by decide +kernel) (da_cons (d_var (pv 1)) da_nil)) d_int) d_int) da_nil))) (d_callTy cd_int call_int1 rfl t.n_int (by decide +kernel) (da_cons (d_eq hK room.r.units (d_var (pv 1)) d_int) da_nil))))
    (ds_cons (ds_if (dt_not (dt_val (d_call (ok__law_same t) hK (room.mono (by decide)) rfl t.m__law_same t.F__law_same.kp (b__law_same t) (da_cons (d_tup (da_cons (d_callX (ok_integer_below t) takes_none5 (wok_none hF) hK (room.mono (by decide)) rfl t.m_integer_below t.F_integer_below.kp (b_integer_below t) (da_cons (d_var (pv 8)) da_nil)) (da_cons (d_callX (ok_integer_above t) takes_none5 (wok_none hF) hK (room.mono (by decide)) rfl t.m_integer_above t.F_integer_above.kp (b_integer_above t) (da_cons (d_var (pv 8)) da_nil)) da_nil))) (da_cons (d_tup (da_cons (d_var (pv 10)) (da_cons (d_addA hK (d_var (pv 10)) (d_callTy cd_int call_int1 rfl t.n_int (by decide +kernel) (da_cons (d_ne hK room.r.units (d_var (pv 1)) d_int) da_nil))) da_nil))) da_nil)))))
    (ds_one (ds_ret d_bl))
    ds_nil)
    (ds_cons (ds_if (dt_not (dt_val (d_call (ok__law_same t) hK (room.mono (by decide)) rfl t.m__law_same t.F__law_same.kp (b__law_same t) (da_cons (d_tup (da_cons (d_callX (ok_times t) takes_none5 (wok_none hF) hK (room.mono (by decide)) rfl t.m_times t.F_times.kp (b_times t) (da_cons (d_var (pv 8)) (da_cons (d_var (pv 9)) da_nil))) (da_cons (d_callX (ok_times t) takes_none5 (wok_none hF) hK (room.mono (by decide)) rfl t.m_times t.F_times.kp (b_times t) (da_cons (d_var (pv 5)) (da_cons (d_var (pv 8)) da_nil))) da_nil))) (da_cons (d_tup (da_cons (d_call (ok__law_times t) hK (room.mono (by decide)) rfl t.m__law_times t.F__law_times.kp (b__law_times t) (da_cons (d_tup (da_cons (d_var (pv 3)) (da_cons (d_var (pv 4)) (da_cons d_int da_nil)))) (da_cons (d_ix hK (d_var (pv 7)) d_int (fun _ _ => rfl)) (da_cons (d_ix hK (d_var (pv 7)) d_int (fun _ _ => rfl)) da_nil)))) (da_cons (d_call (ok__law_times t) hK (room.mono (by decide)) rfl t.m__law_times t.F__law_times.kp (b__law_times t) (da_cons (d_var (pv 5)) (da_cons (d_var (pv 3)) (da_cons (d_var (pv 4)) da_nil)))) da_nil))) da_nil)))))
    (ds_one (ds_ret d_bl))
    ds_nil)
    (ds_cons (ds_if (PW.pt (dw_and (dt_le (d_callB cd_abs call_abs rfl t.n_abs (by decide +kernel) (da_cons (d_addA hK (d_var (pv 1)) (d_var (pv 2))) da_nil)) d_int) (dw_and1 (dt_not (dt_val (d_call (ok__law_same t) hK (room.mono (by decide)) rfl t.m__law_same t.F__law_same.kp (b__law_same t) (da_cons (d_callX (ok_times t) takes_none5 (wok_none hF) hK (room.mono (by decide)) rfl t.m_times t.F_times.kp (b_times t) (da_cons (d_var (pv 9)) (da_cons (d_var (pv 8)) da_nil))) (da_cons (d_callX (ok_power t) takes_none5 (wok_none hF) hK (room.mono (by decide)) rfl t.m_power t.F_power.kp (b_power t) (da_cons (d_addA hK (d_var (pv 1)) (d_var (pv 2))) da_nil)) da_nil))))))))
    (ds_one (ds_ret d_bl))
    ds_nil)
    (ds_one (ds_ret (d_call (ok__law_same t) hK (room.mono (by decide)) rfl t.m__law_same t.F__law_same.kp (b__law_same t) (da_cons (d_tup (da_cons (d_callX (ok_quotient t) takes_none5 (wok_none hF) hK (room.mono (by decide)) rfl t.m_quotient t.F_quotient.kp (b_quotient t) (da_cons (d_tup (da_cons d_int (da_cons d_int (da_cons d_int da_nil)))) (da_cons (d_var (pv 8)) da_nil))) (da_cons (d_callX (ok_quotient t) takes_none5 (wok_none hF) hK (room.mono (by decide)) rfl t.m_quotient t.F_quotient.kp (b_quotient t) (da_cons (d_callX (ok_times t) takes_none5 (wok_none hF) hK (room.mono (by decide)) rfl t.m_times t.F_times.kp (b_times t) (da_cons (d_var (pv 5)) (da_cons (d_var (pv 8)) da_nil))) (da_cons (d_var (pv 8)) da_nil))) da_nil))) (da_cons (d_tup (da_cons (d_addA hK (d_call (ok__law_power t) hK (room.mono (by decide)) rfl t.m__law_power t.F__law_power.kp (b__law_power t) (da_cons (d_neg (d_var (pv 1))) da_nil)) (d_tup (da_cons d_int da_nil))) (da_cons (d_call (ok__law_least t) hK (room.mono (by decide)) rfl t.m__law_least t.F__law_least.kp (b__law_least t) (da_cons (d_ix hK (d_var (pv 5)) d_int (fun _ _ => rfl)) (da_cons (d_ix hK (d_var (pv 5)) d_int (fun _ _ => rfl)) (da_cons (d_ix hK (d_var (pv 5)) d_int (fun _ _ => rfl)) da_nil)))) da_nil))) da_nil)))))))))))))
theorem kb_cut_floor_floor (t : Tx K mg) : KB t.d_cut_floor ["floor"] ["floor"] [0] := kb_of t.F_cut_floor fun _ _ _ _ _ _ ws hl => match ws, hl with | [_], _ => rfl
theorem kb_gathered_times_many_floor (t : Tx K mg) : KB t.d_gathered_times ["floor", "many"] ["many", "floor"] [1, 0] := kb_of t.F_gathered_times fun _ _ _ _ _ _ ws hl => match ws, hl with | [_, _], _ => rfl
def T__law_are_gathered_right : TDS := (dSeq (dAsg (dCall 1 tf__law_world (dCons (dVar 0) dNil)) (dgName 1))
    (dSeq (dAsg (dTup (dCons (dKey (dVar 1) "d") (dCons (dKey (dVar 1) "keys") (dCons (dKey (dVar 1) "side") dNil)))) (dgTup 3 (dgCons (dgName 2) (dgCons (dgName 3) (dgCons (dgName 4) dgNil)))))
    (dSeq (dAsg (dMk 3 [] tf_Floor_init (dCons (dTup (dCons (dBin gIx (dBin gIx (dVar 3) (dC (.int 0))) (dC (.int 0))) (dCons (dBin gIx (dBin gIx (dVar 3) (dC (.int 0))) (dC (.int 1))) (dCons (dVar 2) dNil)))) (dCons (dTup (dCons (dBin gIx (dBin gIx (dVar 3) (dC (.int 1))) (dC (.int 0))) (dCons (dBin gIx (dBin gIx (dVar 3) (dC (.int 1))) (dC (.int 1))) (dCons (dVar 2) dNil)))) (dCons (dVar 4) dNil)))) (dgName 5))
    (dSeq (dAsg (dBin gSub (dCall 2 tf_draw (dCons (dVar 0) (dCons (dC (.int 25)) dNil))) (dC (.int 12))) (dgName 6))
    (dSeq (dIfS (dTest (dBin gEq (dCall 2 tf_draw (dCons (dVar 0) (dCons (dC (.int 8)) dNil))) (dC (.int 0))))
    (dAsg (dCall 2 tf__law_pick (dCons (dVar 0) (dCons (dTup (dCons (dC (.int 400)) (dCons (dUn gNeg (dC (.int 400))) (dCons (dC (.int 399)) (dCons (dUn gNeg (dC (.int 399))) (dCons (dBin gSub (dCall 2 tf_draw (dCons (dVar 0) (dCons (dC (.int 801)) dNil))) (dC (.int 400))) (dCons (dBin gSub (dCall 2 tf_draw (dCons (dVar 0) (dCons (dC (.int 81)) dNil))) (dC (.int 40))) dNil))))))) dNil))) (dgName 6))
    dNext)
    (dSeq (dAsg (dCall 1 tf__law_power (dCons (dVar 6) dNil)) (dgTup 2 (dgCons (dgName 7) (dgCons (dgName 8) dgNil))))
    (dSeq (dAsg (dIf (dTest (dBin gEq (dBin gMod (dCB gInt (dCons (dVar 6) dNil)) (dC (.int 2))) (dC (.int 0)))) (dC (.int 1)) (dUn gNeg (dC (.int 1)))) (dgName 9))
    (dSeq (dAsg (dTup (dCons (dCB gTuple (dCons (dLcA (dVar 3) [11, 12] (dgTup 2 (dgCons (dgName 11) (dgCons (dgName 12) dgNil))) dYes (dCall 3 tf__law_times (dCons (dTup (dCons (dVar 11) (dCons (dVar 12) (dCons (dVar 2) dNil)))) (dCons (dBin gMulA (dVar 9) (dVar 7)) (dCons (dBin gMulA (dVar 9) (dVar 8)) dNil))))) dNil)) (dCons (dCB gTuple (dCons (dLcV 4 13 dYes (dBin gMulA (dVar 9) (dVar 13))) dNil)) dNil))) (dgName 10))
    (dSeq (dAsg (dCallX 2 tf_gathered_times (dCons (dVar 5) (dCons (dVar 6) dNil))) (dgName 14))
    (dSeq (dIfS (dtOr (dtNot (dTest (dCall 2 tf__law_same (dCons (dTup (dCons (dUn (gFld "all_keys") (dVar 14)) (dCons (dUn (gFld "side") (dVar 14)) dNil))) (dCons (dVar 10) dNil))))) (dtNot (dTest (dBin (gEqI "Floor" tf_Floor_eq) (dVar 14) (dMk 3 [] tf_Floor_init (dCons (dBin gIx (dBin gIx (dVar 10) (dC (.int 0))) (dC (.int 0))) (dCons (dBin gIx (dBin gIx (dVar 10) (dC (.int 0))) (dC (.int 1))) (dCons (dBin gIx (dVar 10) (dC (.int 1))) dNil))))))))
    (dRet (dC (.bl false)))
    dNext)
    (dSeq (dIfS (dtNot (dTest (dCall 2 tf__law_same (dCons (dCallX 1 tf_whole_keys (dCons (dVar 14) dNil)) (dCons (dCB gTuple (dCons (dLcR (dCons (dC (.int 5)) dNil) 15 (dtAnd (dTest (dBin gEq (dBin gMod (dCB gInt (dCons (dBin gIx (dBin gIx (dVar 3) (dVar 15)) (dC (.int 0))) dNil)) (dVar 2)) (dC (.int 0)))) (dTest (dBin gEq (dBin gMod (dCB gInt (dCons (dBin gIx (dBin gIx (dVar 3) (dVar 15)) (dC (.int 1))) dNil)) (dVar 2)) (dC (.int 0))))) (dVar 15)) dNil)) dNil)))))
    (dRet (dC (.bl false)))
    dNext)
    (dSeq (dIfS (dtOr (dtNot (dTest (dBin (gEqI "Floor" tf_Floor_eq) (dCallKX 2 2 [1, 0] tf_gathered_times (dCons (dUn gNeg (dVar 6)) (dCons (dVar 14) dNil))) (dVar 5)))) (dtNot (dTest (dBin (gEqI "Floor" tf_Floor_eq) (dCallX 1 tf_cut_floor (dCons (dCallX 1 tf_gathered (dCons (dVar 5) dNil)) dNil)) (dVar 5)))))
    (dRet (dC (.bl false)))
    dNext)
    (dSeq (dIfS (dTest (dBin gGt (dCB gAbs (dCons (dVar 6) dNil)) (dC (.int 40))))
    (dRet (dC (.bl true)))
    dNext)
    (dSeq (dIfS (dtNot (dTest (dBin (gEqI "Floor" tf_Floor_eq) (dCallX 1 tf_gathered (dCons (dVar 14) dNil)) (dCallX 2 tf_gathered_times (dCons (dVar 5) (dCons (dBin gAddA (dVar 6) (dC (.int 1))) dNil))))))
    (dRet (dC (.bl false)))
    dNext)
    (dSeq (dIfS (dtNot (dTest (dBin (gEqI "Floor" tf_Floor_eq) (dCallKX 1 1 [0] tf_cut_floor (dCons (dVar 14) dNil)) (dCallX 2 tf_gathered_times (dCons (dVar 5) (dCons (dBin gSub (dVar 6) (dC (.int 1))) dNil))))))
    (dRet (dC (.bl false)))
    dNext)
    (dRet (dC (.bl true))))))))))))))))))
def tf__law_are_gathered_right : TF := fun _ ds Q => tfOf 16 T__law_are_gathered_right (fun _ => False) ds Q
theorem ok__law_are_gathered_right (t : Tx K mg) : FnG P w K mg base CX0 11 t.a__law_are_gathered_right t.d__law_are_gathered_right ["_law_deck_here"] (spD K 1 tf__law_are_gathered_right) := by
  have sc := sc__law_are_gathered_right
  exact fng_data (N := ["_law_deck_here", "_law_world_here", "_law_d", "_law_keys_here", "_law_side", "_law_plane", "_law_n", "_law_a", "_law_b", "_law_facing", "_law_due", "_law_x", "_law_y", "_law_it", "_law_told", "_law_r"]) (T := T__law_are_gathered_right) t.F__law_are_gathered_right sc fun cdv A outer s H E F hK hF room =>
    (ds_cons (ds_set (i := 1) sc.nd rfl (by first | exact Or.inl rfl | exact Or.inr rfl) (d_call (ok__law_world t) hK (room.mono (by decide)) rfl t.m__law_world t.F__law_world.kp (b__law_world t) (da_cons (d_var (pv 0)) da_nil)))
    (ds_cons (ds_asg (d_tup (da_cons (d_key (units80 room.r) (d_var (pv 1)) pe_str) (da_cons (d_key (units80 room.r) (d_var (pv 1)) pe_str) (da_cons (d_key (units80 room.r) (d_var (pv 1)) pe_str) da_nil)))) (dg_tup hK rfl (dgs_cons (dg_name (pg_name (i := 2) sc.nd rfl (by first | exact Or.inl rfl | exact Or.inr rfl))) (dgs_cons (dg_name (pg_name (i := 3) sc.nd rfl (by first | exact Or.inl rfl | exact Or.inr rfl))) (dgs_cons (dg_name (pg_name (i := 4) sc.nd rfl (by first | exact Or.inl rfl | exact Or.inr rfl))) dgs_nil)))))
    (ds_cons (ds_set (i := 5) sc.nd rfl (by first | exact Or.inl rfl | exact Or.inr rfl) (d_make t.M_Floor t.I_Floor (ok_Floor_init t) takes_none5 (wok_none hF) hK (room.mono (by decide)) rfl t.g_Floor (bd_Floor_init_4 t) (fun _ _ _ => rfl) (da_cons (d_tup (da_cons (d_ix hK (d_ix hK (d_var (pv 3)) d_int (fun _ _ => rfl)) d_int (fun _ _ => rfl)) (da_cons (d_ix hK (d_ix hK (d_var (pv 3)) d_int (fun _ _ => rfl)) d_int (fun _ _ => rfl)) (da_cons (d_var (pv 2)) da_nil)))) (da_cons (d_tup (da_cons (d_ix hK (d_ix hK (d_var (pv 3)) d_int (fun _ _ => rfl)) d_int (fun _ _ => rfl)) (da_cons (d_ix hK (d_ix hK (d_var (pv 3)) d_int (fun _ _ => rfl)) d_int (fun _ _ => rfl)) (da_cons (d_var (pv 2)) da_nil)))) (da_cons (d_var (pv 4)) da_nil)))))
    (ds_cons (ds_set (i := 6) sc.nd rfl (by first | exact Or.inl rfl | exact Or.inr rfl) (d_sub (d_call (ok__law_draw t) hK (room.mono (by decide)) rfl t.m__law_draw t.F__law_draw.kp (b__law_draw t) (da_cons (d_var (pv 0)) (da_cons d_int da_nil))) d_int))
    (ds_cons (ds_if (dt_eq hK room.r.units (d_call (ok__law_draw t) hK (room.mono (by decide)) rfl t.m__law_draw t.F__law_draw.kp (b__law_draw t) (da_cons (d_var (pv 0)) (da_cons d_int da_nil))) d_int)
    (ds_one (ds_set (i := 6) sc.nd rfl (by first | exact Or.inl rfl | exact Or.inr rfl) (d_call (ok__law_pick t) hK (room.mono (by decide)) rfl t.m__law_pick t.F__law_pick.kp (b__law_pick t) (da_cons (d_var (pv 0)) (da_cons (d_tup (da_cons d_int (da_cons (d_neg d_int) (da_cons d_int (da_cons (d_neg d_int) (da_cons (d_sub (d_call (ok__law_draw t) hK (room.mono (by decide)) rfl t.m__law_draw t.F__law_draw.kp (b__law_draw t) (da_cons (d_var (pv 0)) (da_cons d_int da_nil))) d_int) (da_cons (d_sub (d_call (ok__law_draw t) hK (room.mono (by decide)) rfl t.m__law_draw t.F__law_draw.kp (b__law_draw t) (da_cons (d_var (pv 0)) (da_cons d_int da_nil))) d_int) da_nil))))))) da_nil)))))
    ds_nil)
    (ds_cons (ds_asg (d_call (ok__law_power t) hK (room.mono (by decide)) rfl t.m__law_power t.F__law_power.kp (b__law_power t) (da_cons (d_var (pv 6)) da_nil)) (dg_tup hK rfl (dgs_cons (dg_name (pg_name (i := 7) sc.nd rfl (by first | exact Or.inl rfl | exact Or.inr rfl))) (dgs_cons (dg_name (pg_name (i := 8) sc.nd rfl (by first | exact Or.inl rfl | exact Or.inr rfl))) dgs_nil))))
    (ds_cons (ds_set (i := 9) sc.nd rfl (by first | exact Or.inl rfl | exact Or.inr rfl) (d_if (dt_eq hK room.r.units (d_mod (d_callTy cd_int call_int1 rfl t.n_int (by decide +kernel) (da_cons (d_var (pv 6)) da_nil)) d_int) d_int) d_int (d_neg d_int)))
    (ds_cons (ds_set (i := 10) sc.nd rfl (by first | exact Or.inl rfl | exact Or.inr rfl) (d_tup (da_cons (d_callTy (hK ▸ cd_tuple) call_tuple_of rfl t.n_tuple (by decide +kernel) (da_cons (d_lcA hK rfl sc.nd (d_var (pv 3)) (blkOk_by (own := [("_law_x", 11), ("_law_y", 12)]) (N := ["_law_deck_here", "_law_world_here", "_law_d", "_law_keys_here", "_law_side", "_law_plane", "_law_n", "_law_a", "_law_b", "_law_facing", "_law_due", "_law_x", "_law_y", "_law_it", "_law_told", "_law_r"]) (sc := defScope s__law_are_gathered_right) (by decide +kernel)) rfl (fun _ _ _ _ _ => (dw_tup hK rfl (dsw_cons (dw_name (pg_name (i := 11) sc.nd rfl (by first | exact Or.inl rfl | exact Or.inr rfl)) (by decide)) (dsw_cons (dw_name (pg_name (i := 12) sc.nd rfl (by first | exact Or.inl rfl | exact Or.inr rfl)) (by decide)) dsw_nil)))) (fun _ _ _ _ _ => dts_nil) (fun _ _ _ _ _ => (d_call (ok__law_times t) hK (room.mono (by decide)) rfl t.m__law_times t.F__law_times.kp (b__law_times t) (da_cons (d_tup (da_cons (d_var (pv 11)) (da_cons (d_var (pv 12)) (da_cons (d_var (pv 2)) da_nil)))) (da_cons (d_mulA (d_var (pv 9)) (d_var (pv 7))) (da_cons (d_mulA (d_var (pv 9)) (d_var (pv 8))) da_nil)))))) da_nil)) (da_cons (d_callTy (hK ▸ cd_tuple) call_tuple_of rfl t.n_tuple (by decide +kernel) (da_cons (d_lcV hK rfl sc.nd (pv 4) (blkOk_by (own := [("_law_it", 13)]) (N := ["_law_deck_here", "_law_world_here", "_law_d", "_law_keys_here", "_law_side", "_law_plane", "_law_n", "_law_a", "_law_b", "_law_facing", "_law_due", "_law_x", "_law_y", "_law_it", "_law_told", "_law_r"]) (sc := defScope s__law_are_gathered_right) (by decide +kernel)) rfl (fun _ _ _ _ _ => pg_name (i := 13) sc.nd rfl (by first | exact Or.inl rfl | exact Or.inr rfl)) (fun _ _ _ _ _ => dts_nil) (fun _ _ _ _ _ => (d_mulA (d_var (pv 9)) (d_var (pv 13))))) da_nil)) da_nil))))
    (ds_cons (ds_set (i := 14) sc.nd rfl (by first | exact Or.inl rfl | exact Or.inr rfl) (d_callX (ok_gathered_times t) takes_none5 (wok_none hF) hK (room.mono (by decide)) rfl t.m_gathered_times t.F_gathered_times.kp (b_gathered_times t) (da_cons (d_var (pv 5)) (da_cons (d_var (pv 6)) da_nil))))
    (ds_cons (ds_if (PW.pt (dw_or (dt_not (dt_val (d_call (ok__law_same t) hK (room.mono (by decide)) rfl t.m__law_same t.F__law_same.kp (b__law_same t) (da_cons (d_tup (da_cons (d_fld hK (d_var (pv 14))) (da_cons (d_fld hK (d_var (pv 14))) da_nil))) (da_cons (d_var (pv 10)) da_nil))))) (dw_or1 (dt_not (dt_eqI t.I_Floor t.E_Floor.1 t.E_Floor.2 (ok_Floor_eq t) hK (room.mono (by decide)) (b_Floor_eq t) (d_var (pv 14)) (d_make t.M_Floor t.I_Floor (ok_Floor_init t) takes_none5 (wok_none hF) hK (room.mono (by decide)) rfl t.g_Floor (bd_Floor_init_4 t) (fun _ _ _ => rfl) (da_cons (d_ix hK (d_ix hK (d_var (pv 10)) d_int (fun _ _ => rfl)) d_int (fun _ _ => rfl)) (da_cons (d_ix hK (d_ix hK (d_var (pv 10)) d_int (fun _ _ => rfl)) d_int (fun _ _ => rfl)) (da_cons (d_ix hK (d_var (pv 10)) d_int (fun _ _ => rfl)) da_nil)))))))))
    (ds_one (ds_ret d_bl))
    ds_nil)
    (ds_cons (ds_if (dt_not (dt_val (d_call (ok__law_same t) hK (room.mono (by decide)) rfl t.m__law_same t.F__law_same.kp (b__law_same t) (da_cons (d_callX (ok_whole_keys t) takes_none5 (wok_none hF) hK (room.mono (by decide)) rfl t.m_whole_keys t.F_whole_keys.kp (b_whole_keys t) (da_cons (d_var (pv 14)) da_nil)) (da_cons (d_callTy (hK ▸ cd_tuple) call_tuple_of rfl t.n_tuple (by decide +kernel) (da_cons (d_lcR hK rfl sc.nd rfl t.n_range (da_cons d_int da_nil) (blkOk_by (own := [("_law_r", 15)]) (N := ["_law_deck_here", "_law_world_here", "_law_d", "_law_keys_here", "_law_side", "_law_plane", "_law_n", "_law_a", "_law_b", "_law_facing", "_law_due", "_law_x", "_law_y", "_law_it", "_law_told", "_law_r"]) (sc := defScope s__law_are_gathered_right) (by decide +kernel)) rfl (fun _ _ _ _ _ => pg_name (i := 15) sc.nd rfl (by first | exact Or.inl rfl | exact Or.inr rfl)) (fun _ _ _ _ _ => (dts_one (PW.pt (dw_and (dt_eq hK room.r.units (d_mod (d_callTy cd_int call_int1 rfl t.n_int (by decide +kernel) (da_cons (d_ix hK (d_ix hK (d_var (pv 3)) (d_var (pv 15)) (fun _ _ => rfl)) d_int (fun _ _ => rfl)) da_nil)) (d_var (pv 2))) d_int) (dw_and1 (dt_eq hK room.r.units (d_mod (d_callTy cd_int call_int1 rfl t.n_int (by decide +kernel) (da_cons (d_ix hK (d_ix hK (d_var (pv 3)) (d_var (pv 15)) (fun _ _ => rfl)) d_int (fun _ _ => rfl)) da_nil)) (d_var (pv 2))) d_int)))))) (fun _ _ _ _ _ => (d_var (pv 15)))) da_nil)) da_nil)))))
    (ds_one (ds_ret d_bl))
    ds_nil)
    (ds_cons (ds_if (PW.pt (dw_or (dt_not (dt_eqI t.I_Floor t.E_Floor.1 t.E_Floor.2 (ok_Floor_eq t) hK (room.mono (by decide)) (b_Floor_eq t) (d_callKX (ok_gathered_times t) takes_none5 (wok_none hF) hK (room.mono (by decide)) rfl t.m_gathered_times t.F_gathered_times.kp (kb_gathered_times_many_floor t) (dk_cons (d_neg (d_var (pv 6))) (dk_cons (d_var (pv 14)) dk_nil))) (d_var (pv 5)))) (dw_or1 (dt_not (dt_eqI t.I_Floor t.E_Floor.1 t.E_Floor.2 (ok_Floor_eq t) hK (room.mono (by decide)) (b_Floor_eq t) (d_callX (ok_cut_floor t) takes_none5 (wok_none hF) hK (room.mono (by decide)) rfl t.m_cut_floor t.F_cut_floor.kp (b_cut_floor t) (da_cons (d_callX (ok_gathered t) takes_none5 (wok_none hF) hK (room.mono (by decide)) rfl t.m_gathered t.F_gathered.kp (b_gathered t) (da_cons (d_var (pv 5)) da_nil)) da_nil)) (d_var (pv 5)))))))
    (ds_one (ds_ret d_bl))
    ds_nil)
    (ds_cons (ds_if (dt_gt (d_callB cd_abs call_abs rfl t.n_abs (by decide +kernel) (da_cons (d_var (pv 6)) da_nil)) d_int)
    (ds_one (ds_ret d_bl))
    ds_nil)
    (ds_cons (ds_if (dt_not (dt_eqI t.I_Floor t.E_Floor.1 t.E_Floor.2 (ok_Floor_eq t) hK (room.mono (by decide)) (b_Floor_eq t) (d_callX (ok_gathered t) takes_none5 (wok_none hF) hK (room.mono (by decide)) rfl t.m_gathered t.F_gathered.kp (b_gathered t) (da_cons (d_var (pv 14)) da_nil)) (d_callX (ok_gathered_times t) takes_none5 (wok_none hF) hK (room.mono (by decide)) rfl t.m_gathered_times t.F_gathered_times.kp (b_gathered_times t) (da_cons (d_var (pv 5)) (da_cons (d_addA hK (d_var (pv 6)) d_int) da_nil)))))
    (ds_one (ds_ret d_bl))
    ds_nil)
    (ds_cons (ds_if (dt_not (dt_eqI t.I_Floor t.E_Floor.1 t.E_Floor.2 (ok_Floor_eq t) hK (room.mono (by decide)) (b_Floor_eq t) (d_callKX (ok_cut_floor t) takes_none5 (wok_none hF) hK (room.mono (by decide)) rfl t.m_cut_floor t.F_cut_floor.kp (kb_cut_floor_floor t) (dk_cons (d_var (pv 14)) dk_nil)) (d_callX (ok_gathered_times t) takes_none5 (wok_none hF) hK (room.mono (by decide)) rfl t.m_gathered_times t.F_gathered_times.kp (b_gathered_times t) (da_cons (d_var (pv 5)) (da_cons (d_sub (d_var (pv 6)) d_int) da_nil)))))
    (ds_one (ds_ret d_bl))
    ds_nil)
    (ds_one (ds_ret d_bl)))))))))))))))))
def T_law : TDS := (dSeq (dForR (dCons (dC (.int 3)) dNil) (dgName 2)
    (dSeq (dPar 3 4 (dCons (dCall 1 tf__law_exponent (dCons (dVar 1) dNil)) (dCons (dCall 1 tf__law_exponent (dCons (dVar 1) dNil)) dNil)))
    (dSeq (dIfS (dtNot (dTest (dCall 3 tf__law_are_powers_right (dCons (dVar 1) (dCons (dVar 3) (dCons (dVar 4) dNil))))))
    (dRet (dC (.bl false)))
    dNext)
    (dSeq (dAsg (dCall 2 tf__law_odd (dCons (dVar 1) (dCons (dVar 3) dNil))) (dgName 5))
    (dSeq (dAsg (dIf (dTest (dCall 3 tf__law_is_integer (dCons (dVar 5) (dCons (dUn gNeg (dC (.int 2000))) (dCons (dC (.int 2000)) dNil))))) (dC .non) (dTup (dCons (dC (.str "power")) (dCons (dVar 5) dNil)))) (dgName 6))
    (dIfS (dtNot (dTest (dCall 2 tf__law_same (dCons (dTup (dCons (dCall 2 tf__law_refused (dCons (dVar 5) (dCons (dC (.bl false)) dNil))) (dCons (dCall 2 tf__law_refused (dCons (dVar 5) (dCons (dC (.bl true)) dNil))) dNil))) (dCons (dTup (dCons (dVar 6) (dCons (dVar 6) dNil))) dNil)))))
    (dRet (dC (.bl false)))
    dNext))))))
    (dRet (dCall 1 tf__law_are_gathered_right (dCons (dVar 1) dNil))))
theorem ok_law (t : Tx K mg) : FnG P w K mg base CX0 12 t.a_law t.d_law ["_law_script"] (spLaw K 5 T_law) := by
  have sc := sc_law
  refine fng_of (N := ["_law_script", "_law_deck_here", "_law_turn", "_law_n", "_law_m", "_law_thing", "_law_due"]) t.F_law sc ?_ ?_
  · rintro vs H Q E ⟨a, ns, rfl, _⟩
    rfl
  rintro cdv A outer s H vs Q E room ⟨a, ns, rfl, hS, hlen, hTb, hT, hQ⟩
  have rest : ∀ F : FP, (F.K = K ∧ F.ex = fun _ _ => False) → PSs (cxOf CX0 P w K mg base ["_law_script", "_law_deck_here", "_law_turn", "_law_n", "_law_m", "_law_thing", "_law_due"] "law" (defScope s_law) t.a_law cdv A outer s H E).nox (defBody s_law).tail (sD F T_law) := fun F ⟨hK, hF⟩ =>
    (ds_cons (ds_forR1 PassesOwn.never rfl rfl t.n_range (da_cons d_int da_nil) (dg_name (pg_name (i := 2) sc.nd rfl (by first | exact Or.inl rfl | exact Or.inr rfl)))
    (ds_cons (ds_par (i := 3) (j := 4) rfl sc.nd rfl rfl (by decide) rfl rfl (da_cons (d_call (ok__law_exponent t) hK (room.mono (by decide)) rfl t.m__law_exponent t.F__law_exponent.kp (b__law_exponent t) (da_cons (d_var (pv 1)) da_nil)) (da_cons (d_call (ok__law_exponent t) hK (room.mono (by decide)) rfl t.m__law_exponent t.F__law_exponent.kp (b__law_exponent t) (da_cons (d_var (pv 1)) da_nil)) da_nil)))
    (ds_cons (ds_if (dt_not (dt_val (d_call (ok__law_are_powers_right t) hK (room.mono (by decide)) rfl t.m__law_are_powers_right t.F__law_are_powers_right.kp (b__law_are_powers_right t) (da_cons (d_var (pv 1)) (da_cons (d_var (pv 3)) (da_cons (d_var (pv 4)) da_nil))))))
    (ds_one (ds_ret d_bl))
    ds_nil)
    (ds_cons (ds_set (i := 5) sc.nd rfl (by first | exact Or.inl rfl | exact Or.inr rfl) (d_call (ok__law_odd t) hK (room.mono (by decide)) rfl t.m__law_odd t.F__law_odd.kp (b__law_odd t) (da_cons (d_var (pv 1)) (da_cons (d_var (pv 3)) da_nil))))
    (ds_cons (ds_set (i := 6) sc.nd rfl (by first | exact Or.inl rfl | exact Or.inr rfl) (d_if (dt_val (d_call (ok__law_is_integer t) hK (room.mono (by decide)) rfl t.m__law_is_integer t.F__law_is_integer.kp (b__law_is_integer t) (da_cons (d_var (pv 5)) (da_cons (d_neg d_int) (da_cons d_int da_nil))))) d_non (d_tup (da_cons d_str (da_cons (d_var (pv 5)) da_nil)))))
    (ds_one (ds_if (dt_not (dt_val (d_call (ok__law_same t) hK (room.mono (by decide)) rfl t.m__law_same t.F__law_same.kp (b__law_same t) (da_cons (d_tup (da_cons (d_call (ok__law_refused t) hK (room.mono (by decide)) rfl t.m__law_refused t.F__law_refused.kp (b__law_refused t) (da_cons (d_var (pv 5)) (da_cons d_bl da_nil))) (da_cons (d_call (ok__law_refused t) hK (room.mono (by decide)) rfl t.m__law_refused t.F__law_refused.kp (b__law_refused t) (da_cons (d_var (pv 5)) (da_cons d_bl da_nil))) da_nil))) (da_cons (d_tup (da_cons (d_var (pv 6)) (da_cons (d_var (pv 6)) da_nil))) da_nil)))))
    (ds_one (ds_ret d_bl))
    ds_nil)))))))
    (ds_one (ds_ret (d_call (ok__law_are_gathered_right t) hK (room.mono (by decide)) rfl t.m__law_are_gathered_right t.F__law_are_gathered_right.kp (b__law_are_gathered_right t) (da_cons (d_var (pv 1)) da_nil)))))
  refine ⟨_, PSs.nox (pss_cons (ps_set (i := 1) sc.nd rfl (by first | exact Or.inl rfl | exact Or.inr rfl) (pe_callG (ok__law_deck t) (room.mono (by decide)) rfl t.m__law_deck t.F__law_deck.kp (b__law_deck t) .nil pass0 (pa_cons (pv 0) pa_nil))) (PSs.exF rest)), ?_⟩
  refine ⟨_, rfl, a, ns, rfl, hS, hlen, fun H' d l m xs hs h1 h2 h3 h4 h5 => ?_⟩
  exact law_rest h3 h4 h5 (LamX.Tabs.ext hTb hs) hT hQ
end
end K08
set_option Elab.async false
set_option linter.all false
set_option maxHeartbeats 1000000
set_option maxRecDepth 100000
namespace K08
open PySem PySem.Spec L2 DL
variable {ξ : XT} {Q : D → Prop}
theorem szN (n : Nat) (h : n ≤ 1000 := by decide) : n ≤ sizeLine := sz h
/-! ### golden or not -/
def isI : D → Bool
  | .int _ => true
  | _ => false
def vi : D → Int
  | .int i => i
  | _ => 0
def isG : D → Bool
  | .tup [a, b, d] => isI a && (isI b && (isI d && decide (vi d ≥ 1)))
  | _ => false
abbrev T3 (a b d : Int) : D := .tup [.int a, .int b, .int d]
/-- a value whose parts have a type -/
def Ty : D → Prop
  | .tup ds => ∀ d ∈ ds, typed d = true
  | .kt _ => False
  | .deck => False
  | .ty _ => False
  | _ => True
theorem isI_of {d : D} (h : isI d = true) : ∃ i, d = .int i := by
  cases d <;> first | exact ⟨_, rfl⟩ | cases h
theorem isG_of {x : D} (h : isG x = true) : ∃ a b d, x = T3 a b d ∧ 1 ≤ d := by
  unfold isG at h
  split at h
  · rename_i a b d
    simp only [Bool.and_eq_true, decide_eq_true_eq] at h
    obtain ⟨h1, h2, h3, h4⟩ := h
    obtain ⟨a, rfl⟩ := isI_of h1
    obtain ⟨b, rfl⟩ := isI_of h2
    obtain ⟨d, rfl⟩ := isI_of h3
    exact ⟨a, b, d, rfl, h4⟩
  · cases h
theorem isG_T {a b d : Int} (h : 1 ≤ d) : isG (T3 a b d) = true := by
  show (true && (true && (true && decide (d ≥ 1)))) = true
  rw [decide_eq_true h]; rfl
theorem e_ipi {d : D} (h : typed d = true) (q : Q (.bl (isI d))) : tf_is_plain_integer ξ [d] Q := by
  cases d with
  | int i => exact ⟨rfl, rfl, q⟩
  | bl b => exact ⟨rfl, rfl, q⟩
  | deck => cases h
  | ty n => cases h
  | _ => exact ⟨rfl, q⟩
theorem andq {p r : Bool} {A : Prop} (q : Q (.bl (p && r))) (k : Q (.bl r) → A) : if p = true then A else Q (.bl false) := by
  cases p
  · exact q
  · exact k q
theorem e_isG {x : D} (v : Ty x) (q : Q (.bl (isG x))) : tf_is_golden ξ [x] Q := by
  cases x with
  | tup ds =>
    refine ⟨rfl, ?_⟩
    show (if (!decide ((ds.length : Int) = 3)) = true then _ else _)
    by_cases hl : (ds.length : Int) = 3
    · rw [decide_eq_true hl]
      match ds, hl with
      | [a, b, d], _ =>
        have va := v a (by simp)
        have vb := v b (by simp)
        have vd := v d (by simp)
        have q : Q (.bl (isI a && (isI b && (isI d && decide (vi d ≥ 1))))) := q
        refine ⟨rfl, rfl, e_ipi va ?_⟩
        refine (andq q fun q => ?_ : if isI a = true then _ else Q (.bl false))
        refine ⟨rfl, e_ipi vb ?_⟩
        refine (andq q fun q => ?_ : if isI b = true then _ else Q (.bl false))
        refine ⟨rfl, e_ipi vd ?_⟩
        cases hd : isI d with
        | false => rw [hd] at q; exact q
        | true =>
          rw [hd] at q
          obtain ⟨i, rfl⟩ := isI_of hd
          exact q
      | [], h => simp at h
      | [_], h => simp at h
      | [_, _], h => simp at h
      | _ :: _ :: _ :: _ :: _, h => simp only [List.length_cons] at h; omega
    · rw [decide_eq_false hl]
      have e : isG (.tup ds) = false := by
        unfold isG
        split
        · rename_i e
          cases e
          exact (hl rfl).elim
        · rfl
      rw [e] at q
      exact q
  | deck => cases v
  | ty n => cases v
  | kt n => cases v
  | _ => exact ⟨rfl, q⟩
theorem e_needX {x : D} (v : Ty x) (h1 : isG x = false → ξ ⟨"BadNumber", [("thing", x)]⟩) (h2 : isG x = true → Q .non) : tf_need_golden ξ [x] Q := by
  refine ⟨rfl, e_isG v ?_⟩
  cases h : isG x with
  | false => exact h1 h
  | true => exact h2 h
theorem ty3 (a b d : Int) : Ty (T3 a b d) := by
  intro x m
  simp only [List.mem_cons, List.not_mem_nil, or_false] at m
  rcases m with rfl | rfl | rfl <;> rfl
theorem e_need {a b d : Int} (hd : 1 ≤ d) (h : Q .non) : tf_need_golden ξ [T3 a b d] Q := e_needX (ty3 a b d) (fun z => by rw [isG_T hd] at z; cases z) fun _ => h
/-! ### lowest terms -/
structure Nf (x y z : Int) : Prop where
  p : 1 ≤ z
  g : (x.natAbs.gcd y.natAbs).gcd z.natAbs = 1
def Rl (A B C x y z : Int) : Prop := x * C = A * z ∧ y * C = B * z
structure Gs (n : Nat) (a b d : Int) : Prop where
  ba : Bd n a
  bb : Bd n b
  bd : Bd n d
  p : 1 ≤ d
theorem Gs.mono {n m : Nat} {a b d : Int} (g : Gs n a b d) (l : n ≤ m) : Gs m a b d := ⟨g.ba.mono l, g.bb.mono l, g.bd.mono l, g.p⟩
theorem core3 (a b d : Int) (hd : d ≠ 0) : ∃ x y z : Int, ∃ G : Int, G = (((Nat.gcd a.natAbs b.natAbs).gcd d.natAbs : Nat) : Int) ∧ 0 < G ∧ a = G * x ∧ b = G * y ∧ d = G * z ∧ (x.natAbs.gcd y.natAbs).gcd z.natAbs = 1 := by
  generalize hg : (Nat.gcd a.natAbs b.natAbs).gcd d.natAbs = g
  have da : g ∣ a.natAbs := hg ▸ Nat.dvd_trans (Nat.gcd_dvd_left _ _) (Nat.gcd_dvd_left _ _)
  have db : g ∣ b.natAbs := hg ▸ Nat.dvd_trans (Nat.gcd_dvd_left _ _) (Nat.gcd_dvd_right _ _)
  have dd : g ∣ d.natAbs := hg ▸ Nat.gcd_dvd_right _ _
  have gp : 0 < g := by
    refine Nat.pos_of_ne_zero fun e => ?_
    rw [e] at dd
    have := Nat.eq_zero_of_zero_dvd dd
    omega
  obtain ⟨x, hx⟩ := Int.ofNat_dvd_left.mpr da
  obtain ⟨y, hy⟩ := Int.ofNat_dvd_left.mpr db
  obtain ⟨z, hz⟩ := Int.ofNat_dvd_left.mpr dd
  refine ⟨x, y, z, (g : Int), rfl, by omega, hx, hy, hz, ?_⟩
  have ea : a.natAbs = g * x.natAbs := by rw [hx, Int.natAbs_mul]; rfl
  have eb : b.natAbs = g * y.natAbs := by rw [hy, Int.natAbs_mul]; rfl
  have ed : d.natAbs = g * z.natAbs := by rw [hz, Int.natAbs_mul]; rfl
  rw [ea, eb, ed, Nat.gcd_mul_left, Nat.gcd_mul_left] at hg
  exact Nat.eq_of_mul_eq_mul_left gp (by rw [hg, Nat.mul_one])
theorem Nf.le {x y z x' y' z' : Int} (h : Nf x y z) (p : 1 ≤ z') (r : Rl x y z x' y' z') : z ∣ z' := by
  obtain ⟨e1, e2⟩ := r
  have d1 : z.natAbs ∣ x.natAbs * z'.natAbs := by
    rw [← Int.natAbs_mul, ← e1, Int.natAbs_mul]
    exact Nat.dvd_mul_left _ _
  have d2 : z.natAbs ∣ y.natAbs * z'.natAbs := by
    rw [← Int.natAbs_mul, ← e2, Int.natAbs_mul]
    exact Nat.dvd_mul_left _ _
  have d3 : z.natAbs ∣ z.natAbs * z'.natAbs := Nat.dvd_mul_right _ _
  have d4 := Nat.dvd_gcd (Nat.dvd_gcd d1 d2) d3
  rw [Nat.gcd_mul_right, Nat.gcd_mul_right, h.g, Nat.one_mul] at d4
  exact Int.natAbs_dvd_natAbs.mp d4
theorem Rl.symm {x y z x' y' z' : Int} (r : Rl x y z x' y' z') : Rl x' y' z' x y z := ⟨r.1.symm, r.2.symm⟩
theorem nf_eq {x y z x' y' z' : Int} (h : Nf x y z) (h' : Nf x' y' z') (r : Rl x y z x' y' z') : x = x' ∧ y = y' ∧ z = z' := by
  have d1 := h.le h'.p r
  have d2 := h'.le h.p r.symm
  have e : z = z' := Int.le_antisymm (Int.le_of_dvd (by have := h'.p; omega) d1) (Int.le_of_dvd (by have := h.p; omega) d2)
  subst e
  have nz : z ≠ 0 := by have := h.p; omega
  exact ⟨(Int.eq_of_mul_eq_mul_right nz r.1).symm, (Int.eq_of_mul_eq_mul_right nz r.2).symm, rfl⟩
theorem Rl.trans {a b d x y z u v w : Int} (hz : z ≠ 0) (r : Rl a b d x y z) (q : Rl x y z u v w) : Rl a b d u v w := by
  obtain ⟨r1, r2⟩ := r
  obtain ⟨q1, q2⟩ := q
  constructor
  · refine Int.eq_of_mul_eq_mul_right hz ?_
    grind
  · refine Int.eq_of_mul_eq_mul_right hz ?_
    grind
theorem Rl.refl {a b d : Int} : Rl a b d a b d := ⟨rfl, rfl⟩
theorem bd_part {n : Nat} {a G x : Int} (h : Bd n a) (e : a = G * x) (p : 0 < G) : Bd n x := by
  refine h.of_le ?_
  rw [e, Int.natAbs_mul]
  exact Nat.le_mul_of_pos_left _ (by omega)
theorem log_sm {n : Nat} {a : Int} (h : Bd n a) (l : n ≤ 8900) : a.natAbs.log2 < 8990 := PySem.Flt.log2_lt_of (by decide) (h.mono (m := 8990) (by omega))
/-- any numbers over a bottom that is not great -/
theorem e_lowest {n m : Nat} {a b d : Int} (ha : Bd n a) (hb : Bd n b) (hd : Bd m d) (nz : d ≠ 0) (l : m ≤ 8900) (h : ∀ x y z, Nf x y z → Rl a b d x y z → Bd n x → Bd n y → Bd m z → Q (T3 x y z)) : tf__lowest ξ [.int a, .int b, .int d] Q := by
  obtain ⟨x, y, z, G, eG, pG, ea, eb, ed, cop⟩ := core3 a b d nz
  have bx := bd_part ha ea pG
  have by_ := bd_part hb eb pG
  have bz := bd_part hd ed pG
  have zn : z ≠ 0 := fun e => nz (by rw [ed, e, Int.mul_zero])
  have bG : Bd m G := hd.of_le (by
    rw [ed, Int.natAbs_mul]
    exact Nat.le_mul_of_pos_right _ (by omega))
  have lg := log_sm bG l
  have lgn : (-G).natAbs.log2 < 8990 := by rw [Int.natAbs_neg]; exact lg
  refine ifd (fun hneg => ?_) (fun hpos => ?_)
  · rw [← eG]
    have zneg : z < 0 := by
      rcases Int.lt_or_lt_of_ne zn with q | q
      · exact q
      · have := Int.mul_pos pG q
        omega
    have f1 : a.fdiv (-G) = -x := by rw [show a = (-G) * (-x) by rw [Int.neg_mul_neg]; exact ea]; exact Int.mul_fdiv_cancel_left _ (by omega)
    have f2 : b.fdiv (-G) = -y := by rw [show b = (-G) * (-y) by rw [Int.neg_mul_neg]; exact eb]; exact Int.mul_fdiv_cancel_left _ (by omega)
    have f3 : d.fdiv (-G) = -z := by rw [show d = (-G) * (-z) by rw [Int.neg_mul_neg]; exact ed]; exact Int.mul_fdiv_cancel_left _ (by omega)
    refine ⟨⟨by omega, .inr lgn⟩, ⟨by omega, .inr lgn⟩, ⟨by omega, .inr lgn⟩, sz (n := 3) (by decide), ?_⟩
    show Q (T3 (a.fdiv (-G)) (b.fdiv (-G)) (d.fdiv (-G)))
    rw [f1, f2, f3]
    refine h _ _ _ ⟨by omega, by simpa using cop⟩ ⟨?_, ?_⟩ bx.neg by_.neg bz.neg
    · rw [ea, ed]; grind
    · rw [eb, ed]; grind
  · rw [← eG]
    have zp : 0 < z := by
      rcases Int.lt_or_lt_of_ne zn with q | q
      · have := Int.mul_neg_of_pos_of_neg pG q
        omega
      · exact q
    have f1 : a.fdiv G = x := by rw [ea]; exact Int.mul_fdiv_cancel_left _ (by omega)
    have f2 : b.fdiv G = y := by rw [eb]; exact Int.mul_fdiv_cancel_left _ (by omega)
    have f3 : d.fdiv G = z := by rw [ed]; exact Int.mul_fdiv_cancel_left _ (by omega)
    refine ⟨⟨by omega, .inr lg⟩, ⟨by omega, .inr lg⟩, ⟨by omega, .inr lg⟩, sz (n := 3) (by decide), ?_⟩
    show Q (T3 (a.fdiv G) (b.fdiv G) (d.fdiv G))
    rw [f1, f2, f3]
    refine h _ _ _ ⟨by omega, cop⟩ ⟨?_, ?_⟩ bx by_ bz
    · rw [ea, ed]; grind
    · rw [eb, ed]; grind
/-! ### sums, products, quotients -/
section
variable {a b d c e f : Int} {n m : Nat}
theorem mulp {x y : Int} (h : 1 ≤ x) (k : 1 ≤ y) : 1 ≤ x * y := by
  have := Int.mul_pos (a := x) (b := y) (by omega) (by omega)
  omega
theorem Bd.m2 {x y : Int} (h : Bd n x) (k : Bd m y) : Bd (n + m) (x * y) := h.mul k
theorem bp {x y u v : Int} (h : Bd n x) (k : Bd m y) (h' : Bd n u) (k' : Bd m v) : Bd (n + m + 1) (x * y + u * v) := (h.mul k).add (h'.mul k')
theorem bm {x y u v : Int} (h : Bd n x) (k : Bd m y) (h' : Bd n u) (k' : Bd m v) : Bd (n + m + 1) (x * y - u * v) := (h.mul k).sub (h'.mul k')
theorem e_reduced (g : Gs n a b d) (l : n ≤ 8900) (h : ∀ x y z, Nf x y z → Rl a b d x y z → Gs n x y z → Q (T3 x y z)) : tf_reduced ξ [T3 a b d] Q :=
  ⟨rfl, e_need g.p ⟨rfl, rfl, e_lowest g.ba g.bb g.bd (by have := g.p; omega) l fun x y z nf r b1 b2 b3 => h x y z nf r ⟨b1, b2, b3, nf.p⟩⟩⟩
theorem e_minus (g : Gs n a b d) (k : Gs m c e f) (l : n + m + 1 ≤ 8900) (h : ∀ x y z, Nf x y z → Rl (a * f - c * d) (b * f - e * d) (d * f) x y z → Gs (n + m + 1) x y z → Q (T3 x y z)) : tf_minus ξ [T3 a b d, T3 c e f] Q := by
  refine ⟨rfl, e_need g.p ⟨rfl, e_need k.p ⟨rfl, rfl, g.ba.cmul k.bd (by omega), k.ba.cmul g.bd (by omega), g.bb.cmul k.bd (by omega), k.bb.cmul g.bd (by omega), g.bd.cmul k.bd (by omega), rfl, ?_⟩⟩⟩
  refine e_lowest (n := n + m + 1) ?_ ?_ ((g.bd.mul k.bd).mono (m := n + m + 1) (by omega)) (by have := mulp g.p k.p; omega) l fun x y z nf r b1 b2 b3 => h x y z nf r ⟨b1, b2, b3, nf.p⟩
  · exact (((g.ba.mul k.bd).mono (by omega)).sub ((k.ba.mul g.bd).mono (by omega)) : Bd (n + m + 1) _)
  · exact (((g.bb.mul k.bd).mono (by omega)).sub ((k.bb.mul g.bd).mono (by omega)) : Bd (n + m + 1) _)
/-- numbers may be great, bottoms not -/
theorem e_times {u v : Nat} (ga : Bd n a) (gb : Bd n b) (gd : Bd u d) (gp : 1 ≤ d) (ka : Bd m c) (kb : Bd m e) (kd : Bd v f) (kp : 1 ≤ f) (l : n + m ≤ 100000) (l2 : u + v ≤ 8900) (h : ∀ x y z, Nf x y z → Rl (a * c + b * e) (a * e + b * c + b * e) (d * f) x y z → Bd (n + m + 2) x → Bd (n + m + 2) y → Bd (u + v) z → Q (T3 x y z)) : tf_times ξ [T3 a b d, T3 c e f] Q := by
  refine ⟨rfl, e_need gp ⟨rfl, e_need kp ⟨rfl, rfl, ga.cmul ka (by omega), gb.cmul kb (by omega), ga.cmul kb (by omega), gb.cmul ka (by omega), gb.cmul kb (by omega), gd.cmul kd (by omega), rfl, ?_⟩⟩⟩
  refine e_lowest (n := n + m + 2) ?_ ?_ (gd.mul kd) (by have := mulp gp kp; omega) l2 h
  · exact (bp ga ka gb kb).mono (by omega)
  · exact ((bp ga kb gb ka).add ((gb.mul kb).mono (by omega)) : Bd (n + m + 1 + 1) _)
theorem e_conj (g : Gs n a b d) (l : n + 1 ≤ 8900) (h : ∀ v, Q v) : tf_conjugate ξ [T3 a b d] Q :=
  ⟨rfl, e_need g.p ⟨rfl, rfl, e_lowest (g.ba.add g.bb) (g.bb.neg.mono (by omega)) (g.bd.mono (m := n + 1) (by omega)) (by have := g.p; omega) l fun _ _ _ _ _ _ _ _ => h _⟩⟩
/-- c c + c e - e e -/
abbrev nm (c e : Int) : Int := c * c + c * e - e * e
theorem bd_nm (hc : Bd m c) (he : Bd m e) : Bd (m + m + 2) (nm c e) := (bp hc hc hc he).sub ((he.mul he).mono (by omega))
theorem bd_q1 (g : Gs n a b d) (k : Gs m c e f) : Bd (n + m + 2) (a * (c + e) - b * e) := ((g.ba.mul (k.ba.add k.bb)).mono (m := n + m + 1) (by omega)).sub ((g.bb.mul k.bb).mono (by omega))
theorem bd_q2 (g : Gs n a b d) (k : Gs m c e f) : Bd (n + m + 1) (b * c - a * e) := bm g.bb k.ba g.ba k.bb
theorem root5 : ∀ (k : Nat) (n b : Nat), n ≤ k → n * n = 5 * (b * b) → n = 0
  | 0, n, b, h, _ => by omega
  | k + 1, n, b, h, e => by
    have h5 : n % 5 = 0 := by
      have : (n * n) % 5 = 0 := by omega
      rw [Nat.mul_mod] at this
      have l : n % 5 < 5 := Nat.mod_lt _ (by decide)
      generalize n % 5 = r at *
      match r, l with
      | 0, _ => rfl
      | 1, _ => simp at this
      | 2, _ => simp at this
      | 3, _ => simp at this
      | 4, _ => simp at this
    obtain ⟨m, rfl⟩ : ∃ m, n = 5 * m := ⟨n / 5, by omega⟩
    have e2 : b * b = 5 * (m * m) := by
      have : 5 * m * (5 * m) = 25 * (m * m) := by rw [Nat.mul_mul_mul_comm]
      omega
    have hm : m * m ≤ m * m := Nat.le_refl _
    by_cases hm0 : m = 0
    · omega
    · have hb : b ≤ 5 * m - 1 := by
        by_cases hb : b ≤ 5 * m - 1
        · exact hb
        · have h1 : 5 * m ≤ b := by omega
          have h2 := Nat.mul_le_mul h1 h1
          have : 5 * m * (5 * m) = 25 * (m * m) := by rw [Nat.mul_mul_mul_comm]
          have p : 0 < m * m := Nat.mul_pos (by omega) (by omega)
          omega
      have hb0 := root5 k b m (by omega) e2
      subst hb0
      have p : 0 < m * m := Nat.mul_pos (by omega) (by omega)
      omega
theorem nm_ne {c e : Int} (h : ¬ (c = 0 ∧ e = 0)) : nm c e ≠ 0 := fun z => by
  have s : (2 * c + e) * (2 * c + e) = 5 * (e * e) := by unfold nm at z; grind
  have r := root5 _ (2 * c + e).natAbs e.natAbs (Nat.le_refl _) (by
    rw [← Int.natAbs_mul, s, Int.natAbs_mul, Int.natAbs_mul]; rfl)
  have q : 2 * c + e = 0 := Int.natAbs_eq_zero.mp r
  rw [q, Int.zero_mul] at s
  have e0 : e * e = 0 := by omega
  rcases Int.mul_eq_zero.mp e0 with w | w <;> omega
theorem e_quotient (g : Gs n a b d) (k : Gs m c e f) (l : n + m + m + 2 ≤ 8900) (hx : c = 0 ∧ e = 0 → ξ ⟨"DividedByZero", []⟩) (h : ¬ (c = 0 ∧ e = 0) → ∀ v, Q v) : tf_quotient ξ [T3 a b d, T3 c e f] Q := by
  have fin : ¬ (c = 0 ∧ e = 0) → CMulW c c ∧ CMulW c e ∧ CMulW e e ∧ CMulW a (c + e) ∧ CMulW b e ∧ CMulW (a * (c + e) - b * e) f ∧ CMulW b c ∧ CMulW a e ∧ CMulW (b * c - a * e) f ∧ CMulW d (nm c e) ∧ 3 = 3 ∧ tf__lowest (fun x => False) [.int ((a * (c + e) - b * e) * f), .int ((b * c - a * e) * f), .int (d * nm c e)] Q := fun nn =>
    ⟨k.ba.cmul k.ba (by omega), k.ba.cmul k.bb (by omega), k.bb.cmul k.bb (by omega), g.ba.cmul (k.ba.add k.bb) (by omega), g.bb.cmul k.bb (by omega), (bd_q1 g k).cmul k.bd (by omega), g.bb.cmul k.ba (by omega), g.ba.cmul k.bb (by omega), (bd_q2 g k).cmul k.bd (by omega), g.bd.cmul (bd_nm k.ba k.bb) (by omega), rfl,
      e_lowest (n := n + m + m + 2) (((bd_q1 g k).mul k.bd).mono (by omega)) (((bd_q2 g k).mul k.bd).mono (by omega)) ((g.bd.mul (bd_nm k.ba k.bb)).mono (m := n + m + m + 2) (by omega)) (fun z => (Int.mul_eq_zero.mp z).elim (fun q => by have := g.p; omega) (nm_ne nn)) l fun _ _ _ _ _ _ _ _ => h nn _⟩
  refine ⟨rfl, e_need g.p ⟨rfl, e_need k.p ⟨rfl, rfl, ?_⟩⟩⟩
  refine ifd (fun h1 => ?_) (fun h1 => fin fun z => h1 z.1)
  refine ifd (fun h2 => hx ⟨h1, h2⟩) (fun h2 => fin fun z => h2 z.2)
end
end K08
set_option Elab.async false
set_option linter.all false
set_option maxHeartbeats 1000000
set_option maxRecDepth 100000
namespace K08
open PySem PySem.Spec L2 DL
variable {ξ : XT} {Q : D → Prop}
theorem eqBl {b c : Bool} {P : D → Prop} (q : ∀ r, P (.bl r)) : gEq (.bl b) (.bl c) P := by
  cases b <;> cases c <;> exact ⟨⟨rfl, rfl⟩, q _⟩
theorem ifa {p : Bool} {A B : Prop} (h1 : A) (h2 : B) : if p = true then A else B := by cases p <;> assumption
theorem e_sop {n : Nat} {a b : Int} (ha : Bd n a) (hb : Bd n b) (l : n ≤ 5000) (h : ∀ i, Q (.int i)) : tf_sign_of_parts ξ [.int a, .int b] Q := by
  have hn : Bd (n + 3) (2 * a + b) := ((Bd.mul (n := 2) Bd.lit ha).mono (m := n + 2) (by omega)).add (hb.mono (by omega))
  have h5 : Bd (n + 3) (5 * b) := (Bd.mul (n := 3) Bd.lit hb).mono (by omega)
  refine ⟨Bd.cmul (n := 2) Bd.lit ha (by omega), ?_⟩
  refine ifd (fun h1 => ?_) (fun h1 => ?_)
  · refine ifd (fun h2 => ?_) (fun h2 => ?_)
    · refine ifd (fun h3 => ?_) (fun h3 => ?_)
      · exact h _
      · refine ifd (fun h4 => ?_) (fun h4 => ?_)
        · exact h _
        · exact h _
    · refine ifd (fun h3 => ?_) (fun h3 => ?_)
      · refine ifd (fun h4 => ?_) (fun h4 => ?_)
        · exact h _
        · omega
      · exact ⟨hn.cmul hn (by omega), Bd.cmul (n := 3) Bd.lit hb (by omega), h5.cmul hb (by omega), ⟨rfl, rfl⟩, ifa (h _) (h _)⟩
  · refine ifd (fun h3 => ?_) (fun h3 => ?_)
    · refine ifd (fun h4 => ?_) (fun h4 => ?_)
      · exact h _
      · exact ⟨hn.cmul hn (by omega), Bd.cmul (n := 3) Bd.lit hb (by omega), h5.cmul hb (by omega), ⟨rfl, rfl⟩, ifa (h _) (h _)⟩
    · omega
section
variable {a b d c e f : Int} {n m : Nat}
theorem e_sign (g : Gs n a b d) (l : n ≤ 5000) (h : ∀ v, Q v) : tf_sign ξ [T3 a b d] Q := ⟨rfl, e_need g.p ⟨rfl, e_sop g.ba g.bb l fun i => h _⟩⟩
theorem e_ibelow (g : Gs n a b d) (l : n ≤ 5000) (h : ∀ i, Q (.int i)) : tf_integer_below ξ [T3 a b d] Q := by
  have h5 : Bd (n + 3) (5 * b) := (Bd.mul (n := 3) Bd.lit g.bb).mono (by omega)
  have sq : 0 ≤ 5 * b * b := by
    rw [Int.mul_assoc]
    have : 0 ≤ b * b := by
      rcases Int.le_total 0 b with q | q
      · exact Int.mul_nonneg q q
      · have := Int.mul_nonneg (a := -b) (b := -b) (by omega) (by omega)
        rwa [Int.neg_mul_neg] at this
    omega
  have lg : (5 * b * b).toNat.log2 < 13500 := by
    have h : Bd (n + 3 + n) (5 * b * b) := h5.mul g.bb
    have e : (5 * b * b).toNat = (5 * b * b).natAbs := by omega
    rw [e]
    exact PySem.Flt.log2_lt_of (by decide) (h.mono (m := 13500) (by omega))
  have hd : Bd (n + 2) (2 * d) := (Bd.mul (n := 2) Bd.lit g.bd).mono (by omega)
  have fin : ∀ r : Int, CMulW 2 a ∧ CMulW 2 d ∧ CDivB (2 * a + b + r) (2 * d) ∧ Q (.int ((2 * a + b + r).fdiv (2 * d))) := fun r => ⟨Bd.cmul (n := 2) Bd.lit g.ba (by omega), Bd.cmul (n := 2) Bd.lit g.bd (by omega), ⟨by have := g.p; omega, .inr (log_sm hd (by omega))⟩, h _⟩
  refine ⟨rfl, e_need g.p ⟨rfl, Bd.cmul (n := 3) Bd.lit g.bb (by omega), h5.cmul g.bb (by omega), ⟨sq, lg⟩, fun r _ _ _ => ?_⟩⟩
  exact ifd (fun _ => fin _) (fun _ => fin _)
theorem e_iabove (g : Gs n a b d) (l : n ≤ 5000) (h : ∀ v, Q v) : tf_integer_above ξ [T3 a b d] Q :=
  ⟨rfl, e_need g.p ⟨rfl, szN 3, rfl, e_ibelow (a := -a) (b := -b) (d := d) ⟨g.ba.neg, g.bb.neg, g.bd, g.p⟩ l fun i => h _⟩⟩
theorem e_whole (g : 1 ≤ d) (h : Q (.bl (decide (a % d = 0) && decide (b % d = 0)))) : tf_is_whole ξ [T3 a b d] Q := by
  have d0 : 0 < d := by omega
  refine ⟨rfl, e_need g ⟨rfl, d0, ?_⟩⟩
  show (if decide (a % d = 0) = true then _ else _)
  cases e : decide (a % d = 0) with
  | false => rw [e] at h; exact h
  | true => rw [e] at h; exact ⟨d0, h⟩
end
/-! ### texts -/
end K08
set_option Elab.async false
set_option linter.all false
set_option maxHeartbeats 1000000
namespace K08
/-! ### powers of g, as pairs -/
abbrev Pr := Int × Int
def ml (p q : Pr) : Pr := (p.1 * q.1 + p.2 * q.2, p.1 * q.2 + p.2 * q.1 + p.2 * q.2)
def nrm (p : Pr) : Int := p.1 * p.1 + p.1 * p.2 - p.2 * p.2
def cj (p : Pr) : Pr := (p.1 + p.2, -p.2)
theorem pr_ext {p q : Pr} (h : p.1 = q.1) (k : p.2 = q.2) : p = q := Prod.ext h k
theorem ml_assoc (p q r : Pr) : ml (ml p q) r = ml p (ml q r) := by
  apply pr_ext <;> simp only [ml] <;> grind
theorem ml_comm (p q : Pr) : ml p q = ml q p := by
  apply pr_ext <;> simp only [ml] <;> grind
theorem ml_one (p : Pr) : ml p (1, 0) = p := by
  apply pr_ext <;> simp only [ml] <;> grind
theorem nrm_ml (p q : Pr) : nrm (ml p q) = nrm p * nrm q := by
  simp only [ml, nrm]; grind
theorem ml_cj (p : Pr) : ml p (cj p) = (nrm p, 0) := by
  apply pr_ext <;> simp only [ml, cj, nrm] <;> grind
def pu : Nat → Pr
  | 0 => (1, 0)
  | n + 1 => ((pu n).2, (pu n).1 + (pu n).2)
def pd : Nat → Pr
  | 0 => (1, 0)
  | n + 1 => ((pd n).2 - (pd n).1, (pd n).1)
def pw (n : Int) : Pr := if n > 0 then pu n.toNat else pd (-n).toNat
theorem pu_ml (n : Nat) : pu (n + 1) = ml (pu n) (0, 1) := by
  apply pr_ext <;> simp only [ml, pu] <;> grind
theorem pd_ml (n : Nat) : pd (n + 1) = ml (pd n) (-1, 1) := by
  apply pr_ext <;> simp only [ml, pd] <;> grind
theorem ud : ml (-1, 1) (0, 1) = (1, 0) := by decide
theorem pd_up (n : Nat) : ml (pd (n + 1)) (0, 1) = pd n := by
  rw [pd_ml, ml_assoc, ud, ml_one]
theorem pw_pu {n : Int} (h : 0 ≤ n) : pw n = pu n.toNat := by
  unfold pw
  split
  · rfl
  · have : n = 0 := by omega
    subst this
    rfl
theorem pw_pd {n : Int} (h : n ≤ 0) : pw n = pd (-n).toNat := by
  unfold pw
  rw [if_neg (by omega)]
theorem pw_succ (n : Int) : pw (n + 1) = ml (pw n) (0, 1) := by
  by_cases h : 0 ≤ n
  · rw [pw_pu h, pw_pu (by omega : 0 ≤ n + 1), show (n + 1).toNat = n.toNat + 1 by omega]
    exact pu_ml _
  · rw [pw_pd (by omega : n ≤ 0), pw_pd (by omega : n + 1 ≤ 0), show (-n).toNat = (-(n + 1)).toNat + 1 by omega, pd_up]
theorem pw_pred (n : Int) : pw (n - 1) = ml (pw n) (-1, 1) := by
  have e := pw_succ (n - 1)
  rw [show n - 1 + 1 = n by omega] at e
  rw [e, ml_assoc, ml_comm (0, 1), ud, ml_one]
theorem pw_zero : pw 0 = (1, 0) := rfl
theorem pw_addN (n : Int) : ∀ k : Nat, pw (n + k) = ml (pw n) (pw k)
  | 0 => by
    rw [show n + ((0 : Nat) : Int) = n by omega]
    exact (ml_one _).symm
  | k + 1 => by
    rw [show n + ((k + 1 : Nat) : Int) = n + k + 1 by omega, show (((k + 1 : Nat)) : Int) = (k : Int) + 1 by omega, pw_succ, pw_succ, pw_addN n k, ml_assoc]
theorem pw_subN (n : Int) : ∀ k : Nat, pw (n + -(k : Int)) = ml (pw n) (pw (-(k : Int)))
  | 0 => by
    rw [show n + -((0 : Nat) : Int) = n by omega]
    exact (ml_one _).symm
  | k + 1 => by
    rw [show n + -((k + 1 : Nat) : Int) = n + -(k : Int) - 1 by omega, show -(((k + 1 : Nat)) : Int) = -(k : Int) - 1 by omega, pw_pred, pw_pred, pw_subN n k, ml_assoc]
theorem pw_add (n m : Int) : pw (n + m) = ml (pw n) (pw m) := by
  by_cases h : 0 ≤ m
  · obtain ⟨k, rfl⟩ := Int.eq_ofNat_of_zero_le h
    exact pw_addN n k
  · obtain ⟨k, e⟩ := Int.eq_ofNat_of_zero_le (show 0 ≤ -m by omega)
    have : m = -(k : Int) := by omega
    subst this
    exact pw_subN n k
/-- 1 at even numbers, -1 at odd ones -/
def sg (n : Int) : Int := if n % 2 = 0 then 1 else -1
theorem sg_succ (n : Int) : sg (n + 1) = -sg n := by
  unfold sg
  split <;> split <;> omega
theorem sg_pred (n : Int) : sg (n - 1) = -sg n := by
  unfold sg
  split <;> split <;> omega
theorem nrm_pu (n : Nat) : nrm (pu n) = sg n := by
  induction n with
  | zero => decide
  | succ n ih =>
    rw [pu_ml, nrm_ml, ih, show (((n + 1 : Nat)) : Int) = (n : Int) + 1 by omega, sg_succ]
    show sg n * (-1) = _
    omega
theorem sg_neg (n : Int) : sg (-n) = sg n := by
  unfold sg
  split <;> split <;> omega
theorem nrm_pd (n : Nat) : nrm (pd n) = sg n := by
  induction n with
  | zero => decide
  | succ n ih =>
    rw [pd_ml, nrm_ml, ih, show (((n + 1 : Nat)) : Int) = (n : Int) + 1 by omega, sg_succ]
    show sg n * (-1) = _
    omega
theorem nrm_pw (n : Int) : nrm (pw n) = sg n := by
  by_cases h : 0 ≤ n
  · rw [pw_pu h, nrm_pu]
    congr 1
    omega
  · rw [pw_pd (by omega), nrm_pd, ← sg_neg n]
    congr 1
    omega
/-- the reciprocal by the conjugate -/
theorem cj_pw (n : Int) : cj (pw n) = ml (sg n, 0) (pw (-n)) := by
  have e : ml (pw n) (pw (-n)) = (1, 0) := by rw [← pw_add, show n + -n = 0 by omega]; rfl
  have f := ml_cj (pw n)
  rw [nrm_pw] at f
  rw [← f, ml_comm (pw n), ml_assoc, e, ml_one]
theorem cj_pw' (n : Int) : (pw n).1 + (pw n).2 = sg n * (pw (-n)).1 ∧ -(pw n).2 = sg n * (pw (-n)).2 := by
  have h := cj_pw n
  have h1 := congrArg Prod.fst h
  have h2 := congrArg Prod.snd h
  simp only [cj, ml] at h1 h2
  constructor
  · rw [h1]; omega
  · rw [h2]; omega
/-! ### their sizes and signs -/
theorem pu_nn (n : Nat) : 0 ≤ (pu n).1 ∧ 0 ≤ (pu n).2 := by
  induction n with
  | zero => decide
  | succ n ih =>
    simp only [pu]
    omega
theorem pu_pos (n : Nat) : 1 ≤ (pu (n + 1)).2 ∧ 1 ≤ (pu n).1 + (pu n).2 := by
  induction n with
  | zero => decide
  | succ n ih =>
    have := pu_nn n
    have := pu_nn (n + 1)
    simp only [pu] at *
    omega
/-- 2 a + b -/
def luc (n : Nat) : Int := 2 * (pu n).1 + (pu n).2
theorem luc_sq (n : Nat) : 5 * (pu n).2 * (pu n).2 = luc n * luc n - 4 * sg n := by
  have h := nrm_pu n
  unfold nrm at h
  unfold luc
  grind
theorem luc_ge (n : Nat) : 1 ≤ luc n ∧ (2 ≤ n → 3 ≤ luc n) := by
  constructor
  · have := pu_nn n
    have := (pu_pos n).2
    unfold luc
    omega
  · intro h
    obtain ⟨k, rfl⟩ : ∃ k, n = k + 2 := ⟨n - 2, by omega⟩
    have := pu_nn k
    have := (pu_pos k).2
    have := (pu_pos k).1
    unfold luc
    simp only [pu] at *
    omega
theorem sq_le {x y : Int} (h : 0 ≤ x) (k : x ≤ y) : x * x ≤ y * y := Int.mul_le_mul k k h (by omega)
/-- the root of 5 b b -/
theorem root_even {n : Nat} (hn : 2 ≤ n) (he : sg n = 1) {r : Int} (h0 : 0 ≤ r) (h1 : r * r ≤ 5 * (pu n).2 * (pu n).2) (h2 : 5 * (pu n).2 * (pu n).2 < (r + 1) * (r + 1)) : r = luc n - 1 ∨ r = luc n - 2 := by
  rw [luc_sq, he] at h1 h2
  have l := (luc_ge n).2 hn
  generalize luc n = f at *
  have a : r < f := by
    refine Int.lt_of_not_ge fun z => ?_
    have := sq_le (by omega : 0 ≤ f) z
    omega
  have b : f - 2 ≤ r := by
    refine Int.le_of_not_gt fun z => ?_
    have := sq_le (x := r + 1) (y := f - 2) (by omega) (by omega)
    have e : (f - 2) * (f - 2) = f * f - 4 * f + 4 := by grind
    omega
  omega
theorem root_odd {n : Nat} (ho : sg n = -1) {r : Int} (h0 : 0 ≤ r) (h1 : r * r ≤ 5 * (pu n).2 * (pu n).2) (h2 : 5 * (pu n).2 * (pu n).2 < (r + 1) * (r + 1)) : r = luc n ∨ r = luc n + 1 := by
  rw [luc_sq, ho] at h1 h2
  have l := (luc_ge n).1
  generalize luc n = f at *
  have a : r < f + 2 := by
    refine Int.lt_of_not_ge fun z => ?_
    have := sq_le (x := f + 2) (y := r) (by omega) z
    have e : (f + 2) * (f + 2) = f * f + 4 * f + 4 := by grind
    omega
  have b : f ≤ r := by
    refine Int.le_of_not_gt fun z => ?_
    have := sq_le (x := r + 1) (y := f) (by omega) (by omega)
    omega
  omega
theorem sg_or (n : Int) : sg n = 1 ∨ sg n = -1 := by
  unfold sg
  split
  · exact .inl rfl
  · exact .inr rfl
/-- powers below: by the conjugate -/
theorem pd_pu (k : Nat) : (pd k).1 = sg k * ((pu k).1 + (pu k).2) ∧ (pd k).2 = -(sg k * (pu k).2) := by
  have h := cj_pw' (k : Int)
  rw [pw_pu (by omega : (0 : Int) ≤ k), pw_pd (by omega : -(k : Int) ≤ 0), show (-(-(k : Int))).toNat = k by omega, show ((k : Int)).toNat = k by omega] at h
  rcases sg_or k with e | e <;> rw [e] at h ⊢ <;> omega
theorem sg_luc (n : Nat) : luc n * luc n - 5 * (pu n).2 * (pu n).2 = 4 * sg n := by
  have := luc_sq n
  omega
end K08
set_option Elab.async false
set_option linter.all false
set_option maxHeartbeats 1000000
set_option maxRecDepth 100000
namespace K08
open PySem PySem.Spec L2 DL
variable {ξ : XT} {Q : D → Prop}
/-! ### the reduced tuple -/
def lo (a b d : Int) : D :=
  let G : Int := (((a.natAbs.gcd b.natAbs).gcd d.natAbs : Nat) : Int)
  T3 (a / G) (b / G) (d / G)
structure Lo (a b d x y z : Int) : Prop where
  eq : lo a b d = T3 x y z
  nf : Nf x y z
  r : Rl a b d x y z
  bx : ∀ n, Bd n a → Bd n x
  by_ : ∀ n, Bd n b → Bd n y
  bz : ∀ n, Bd n d → Bd n z
theorem lo_is {a b d : Int} (hd : 1 ≤ d) : ∃ x y z, Lo a b d x y z := by
  obtain ⟨x, y, z, G, eG, pG, ea, eb, ed, cop⟩ := core3 a b d (by omega)
  refine ⟨x, y, z, ?_, ⟨?_, cop⟩, ⟨?_, ?_⟩, fun n h => bd_part h ea pG, fun n h => bd_part h eb pG, fun n h => bd_part h ed pG⟩
  · unfold lo
    dsimp only
    rw [← eG]
    have f1 : a / G = x := by rw [ea]; exact Int.mul_ediv_cancel_left _ (by omega)
    have f2 : b / G = y := by rw [eb]; exact Int.mul_ediv_cancel_left _ (by omega)
    have f3 : d / G = z := by rw [ed]; exact Int.mul_ediv_cancel_left _ (by omega)
    rw [f1, f2, f3]
  · by_cases q : 1 ≤ z
    · exact q
    · have : G * z ≤ 0 := Int.mul_nonpos_of_nonneg_of_nonpos (by omega) (by omega)
      omega
  · rw [ea, ed]; grind
  · rw [eb, ed]; grind
theorem lo_of {A B C x y z a b d : Int} (nf : Nf x y z) (r : Rl A B C x y z) (hC : C ≠ 0) (hd : 1 ≤ d) (q : Rl A B C a b d) : T3 x y z = lo a b d := by
  obtain ⟨x', y', z', h⟩ := lo_is (a := a) (b := b) hd
  have e1 : Rl x y z a b d := Rl.trans hC r.symm q
  have e2 : Rl x y z x' y' z' := Rl.trans (by omega) e1 h.r
  obtain ⟨rfl, rfl, rfl⟩ := nf_eq nf h.nf e2
  exact h.eq.symm
theorem lo_eq {a b d a' b' d' : Int} (h : 1 ≤ d) (h' : 1 ≤ d') (r : Rl a b d a' b' d') : lo a b d = lo a' b' d' := by
  obtain ⟨x, y, z, l⟩ := lo_is (a := a) (b := b) h
  rw [l.eq]
  exact lo_of l.nf l.r (by omega) h' r
theorem lo_1 (a b : Int) : lo a b 1 = T3 a b 1 := by
  obtain ⟨x, y, z, l⟩ := lo_is (a := a) (b := b) (d := 1) (by decide)
  obtain ⟨r1, r2⟩ := l.r
  have e : z ∣ 1 := l.nf.le (z' := 1) (x' := a) (y' := b) (by decide) l.r.symm
  have e : z = 1 := by
    have p := l.nf.p
    have := Int.le_of_dvd (by decide) e
    omega
  subst e
  rw [l.eq]
  rw [Int.mul_one, Int.mul_one] at r1
  rw [Int.mul_one, Int.mul_one] at r2
  rw [r1, r2]
/-! ### exact results -/
section
variable {a b d c e f : Int} {n m u v : Nat}
theorem x_lowest (ha : Bd n a) (hb : Bd n b) (hd : Bd m d) (p : 1 ≤ d) (l : m ≤ 8900) (q : Q (lo a b d)) : tf__lowest ξ [.int a, .int b, .int d] Q := e_lowest ha hb hd (by omega) l fun x y z nf r _ _ _ => by
  rw [lo_of nf r (by omega) p Rl.refl]
  exact q
theorem x_reduced (g : Gs n a b d) (l : n ≤ 8900) (q : Q (lo a b d)) : tf_reduced ξ [T3 a b d] Q := e_reduced g l fun x y z nf r _ => by
  rw [lo_of nf r (by have := g.p; omega) g.p Rl.refl]
  exact q
theorem x_minus (g : Gs n a b d) (k : Gs m c e f) (l : n + m + 1 ≤ 8900) (q : Q (lo (a * f - c * d) (b * f - e * d) (d * f))) : tf_minus ξ [T3 a b d, T3 c e f] Q := e_minus g k l fun x y z nf r _ => by
  have := mulp g.p k.p
  rw [lo_of nf r (by omega) this Rl.refl]
  exact q
theorem x_times (g : Gs n a b d) (k : Gs m c e f) (l : n + m ≤ 8900) (q : Q (lo (a * c + b * e) (a * e + b * c + b * e) (d * f))) : tf_times ξ [T3 a b d, T3 c e f] Q := e_times g.ba g.bb g.bd g.p k.ba k.bb k.bd k.p (by omega) l fun x y z nf r _ _ _ => by
  have := mulp g.p k.p
  rw [lo_of nf r (by omega) this Rl.refl]
  exact q
theorem x_conj (g : Gs n a b d) (l : n + 1 ≤ 8900) (q : Q (lo (a + b) (-b) d)) : tf_conjugate ξ [T3 a b d] Q :=
  ⟨rfl, e_need g.p ⟨rfl, rfl, x_lowest (g.ba.add g.bb) (g.bb.neg.mono (by omega)) (g.bd.mono (m := n + 1) (by omega)) g.p l q⟩⟩
theorem x_quotient (g : Gs n a b d) (k : Gs m c e f) (l : n + m + m + 2 ≤ 8900) (h : ¬ (c = 0 ∧ e = 0)) {x y z : Int} (pz : 1 ≤ z) (r : Rl ((a * (c + e) - b * e) * f) ((b * c - a * e) * f) (d * nm c e) x y z) (q : Q (lo x y z)) : tf_quotient ξ [T3 a b d, T3 c e f] Q := by
  have dn : d * nm c e ≠ 0 := fun z => (Int.mul_eq_zero.mp z).elim (fun q => by have := g.p; omega) (nm_ne h)
  have fin : CMulW c c ∧ CMulW c e ∧ CMulW e e ∧ CMulW a (c + e) ∧ CMulW b e ∧ CMulW (a * (c + e) - b * e) f ∧ CMulW b c ∧ CMulW a e ∧ CMulW (b * c - a * e) f ∧ CMulW d (nm c e) ∧ 3 = 3 ∧ tf__lowest (fun x => False) [.int ((a * (c + e) - b * e) * f), .int ((b * c - a * e) * f), .int (d * nm c e)] Q :=
    ⟨k.ba.cmul k.ba (by omega), k.ba.cmul k.bb (by omega), k.bb.cmul k.bb (by omega), g.ba.cmul (k.ba.add k.bb) (by omega), g.bb.cmul k.bb (by omega), (bd_q1 g k).cmul k.bd (by omega), g.bb.cmul k.ba (by omega), g.ba.cmul k.bb (by omega), (bd_q2 g k).cmul k.bd (by omega), g.bd.cmul (bd_nm k.ba k.bb) (by omega), rfl,
      e_lowest (n := n + m + m + 2) (((bd_q1 g k).mul k.bd).mono (by omega)) (((bd_q2 g k).mul k.bd).mono (by omega)) ((g.bd.mul (bd_nm k.ba k.bb)).mono (m := n + m + m + 2) (by omega)) dn l fun x' y' z' nf r' _ _ _ => by
        rw [lo_of nf r' dn pz r]
        exact q⟩
  refine ⟨rfl, e_need g.p ⟨rfl, e_need k.p ⟨rfl, rfl, ?_⟩⟩⟩
  refine ifd (fun h1 => ?_) (fun h1 => fin)
  refine ifd (fun h2 => (h ⟨h1, h2⟩).elim) (fun h2 => fin)
/-! ### the law's own: common divisors, least terms -/
abbrev GC : TDT := dTest (dBin gNe (dVar 3) (dC (.int 0)))
abbrev GB : TDS := dPar 2 3 (dCons (dVar 3) (dCons (dBin gMod (dCB gInt (dCons (dVar 2) dNil)) (dVar 3)) dNil))
theorem com_loop {ζ : XW} {De : DEnds} {s0 s1 : Slot} : ∀ (k : Nat) (x y : Nat), y ≤ k → (De.nx [s0, s1, .d (.int ((x.gcd y : Nat) : Int)), .d (.int 0)]) → ∃ n, whileN GC GB ζ De n [s0, s1, .d (.int (x : Int)), .d (.int (y : Int))]
  | 0, x, y, h, q => by
    have : y = 0 := by omega
    subst this
    rw [Nat.gcd_zero_right] at q
    exact ⟨1, q⟩
  | k + 1, x, y, h, q => by
    by_cases hy : y = 0
    · subst hy
      rw [Nat.gcd_zero_right] at q
      exact ⟨1, q⟩
    · have lt := Nat.mod_lt x (Nat.pos_of_ne_zero hy)
      obtain ⟨n, z⟩ := com_loop (ζ := ζ) (De := De) (s0 := s0) (s1 := s1) k y (x % y) (by omega) (by rw [Nat.gcd_comm y, ← Nat.gcd_rec y x, Nat.gcd_comm]; exact q)
      refine ⟨n + 1, ?_⟩
      show (if (!decide ((y : Int) = 0)) = true then _ else _)
      rw [decide_eq_false (by omega : ¬ (y : Int) = 0)]
      exact ⟨by omega, z⟩
theorem e_common (h : Q (.int (((a.natAbs.gcd b.natAbs) : Nat) : Int))) : tf__law_common ξ [.int a, .int b] Q := by
  have ea : (if a < 0 then -a else a) = (a.natAbs : Int) := by split <;> omega
  have eb : (if b < 0 then -b else b) = (b.natAbs : Int) := by split <;> omega
  show dWhile GC GB _ { nx := fun env => dRet (dVar 2) _ _ env, rt := Q } [.d (.int a), .d (.int b), .d (.int (if a < 0 then -a else a)), .d (.int (if b < 0 then -b else b))]
  rw [ea, eb]
  exact com_loop b.natAbs _ _ (Nat.le_refl _) h
theorem e_least (ha : Bd n a) (hb : Bd n b) (hd : Bd m d) (p : 1 ≤ d) (l : m ≤ 8900) (q : Q (lo a b d)) : tf__law_least ξ [.int a, .int b, .int d] Q := by
  obtain ⟨x, y, z, G, eG, pG, ea, eb, ed, cop⟩ := core3 a b d (by omega)
  refine ⟨rfl, e_common ⟨rfl, e_common ?_⟩⟩
  have zn : z ≠ 0 := fun e => by rw [e, Int.mul_zero] at ed; omega
  have bG : Bd m G := hd.of_le (by
    rw [ed, Int.natAbs_mul]
    exact Nat.le_mul_of_pos_right _ (by omega))
  have lg := log_sm bG l
  have eG' : ((((((a.natAbs.gcd b.natAbs : Nat) : Int).natAbs).gcd d.natAbs) : Nat) : Int) = G := by rw [eG]; rfl
  show CDivB a _ ∧ CDivB b _ ∧ CDivB d _ ∧ 3 ≤ sizeLine ∧ Q (T3 (a.fdiv _) (b.fdiv _) (d.fdiv _))
  rw [eG']
  have f1 : a.fdiv G = a / G := Int.fdiv_eq_ediv_of_nonneg _ (by omega)
  have f2 : b.fdiv G = b / G := Int.fdiv_eq_ediv_of_nonneg _ (by omega)
  have f3 : d.fdiv G = d / G := Int.fdiv_eq_ediv_of_nonneg _ (by omega)
  refine ⟨⟨by omega, .inr lg⟩, ⟨by omega, .inr lg⟩, ⟨by omega, .inr lg⟩, szN 3, ?_⟩
  rw [f1, f2, f3]
  unfold lo at q
  dsimp only at q
  rw [← eG] at q
  exact q
theorem e_ltimes (ga : Bd n a) (gb : Bd n b) (gd : Bd u d) (p : 1 ≤ d) (ka : Bd m c) (kb : Bd m e) (l : n + m ≤ 8900) (l2 : u ≤ 8900) (q : Q (lo (a * c + b * e) (a * e + b * c + b * e) d)) : tf__law_times ξ [T3 a b d, .int c, .int e] Q := by
  refine ⟨ga.cmul ka (by omega), gb.cmul kb (by omega), ga.cmul kb (by omega), gb.cmul ka (by omega), gb.cmul kb (by omega), rfl, ?_⟩
  refine e_least (n := n + m + 2) ?_ ?_ gd p l2 q
  · exact (bp ga ka gb kb).mono (by omega)
  · exact ((bp ga kb gb ka).add ((gb.mul kb).mono (by omega)) : Bd (n + m + 1 + 1) _)
end
end K08
set_option Elab.async false
set_option linter.all false
set_option maxHeartbeats 1000000
set_option maxRecDepth 100000
namespace K08
open PySem PySem.Spec L2 DL
variable {ξ : XT} {Q : D → Prop}
/-! ### values with their weights -/
mutual
def bndb : D → Bool
  | .int i => decide (i.natAbs < 2 ^ 345)
  | .tup ds => bndbs ds
  | .lst ds => bndbs ds
  | _ => true
def bndbs : List D → Bool
  | [] => true
  | d :: ds => bndb d && bndbs ds
end
theorem bndbs_mem : ∀ {ds : List D}, bndbs ds = true → ∀ d ∈ ds, bndb d = true
  | [], _, _, m => by cases m
  | x :: ds, h, d, m => by
    obtain ⟨h1, h2⟩ := Bool.and_eq_true_iff.mp (show (bndb x && bndbs ds) = true from h)
    rcases List.mem_cons.mp m with rfl | m
    · exact h1
    · exact bndbs_mem h2 d m
theorem bndbs_of : ∀ {ds : List D}, (∀ d ∈ ds, bndb d = true) → bndbs ds = true
  | [], _ => rfl
  | x :: ds, h => by
    show (bndb x && bndbs ds) = true
    rw [h x List.mem_cons_self, bndbs_of fun d m => h d (List.mem_cons_of_mem _ m)]; rfl
/-- a value with its weight -/
structure Vd (w k : Nat) (d : D) : Prop where
  g : Gd w k d
  b : bndb d = true
theorem Vd.mono {w k w' k' : Nat} {d : D} (v : Vd w k d) (h : w ≤ w' := by decide) (h' : k ≤ k' := by decide) : Vd w' k' d := ⟨v.g.mono h h', v.b⟩
theorem gd_int' {i : Int} (h : Bd 345 i) : Gd 110 0 (.int i) := by
  have h10 : i.natAbs < 10 ^ 104 := Nat.lt_of_lt_of_le h (by decide +kernel)
  have l := int_text_length_le10 (k := 104) (by decide) h10
  refine ⟨rfl, ?_, ?_, ?_, cs_of _, fun _ h => by cases h⟩
  · simp only [toP, PyData.showable]
    exact decide_eq_true (PySem.Flt.log2_lt_of (by decide) (h.mono (m := 1920) (by decide)))
  · simp only [toP, PyData.depth]; decide
  · show (Str.ofString (toString i)).length ≤ 110
    rw [PySem.ofString_length]
    omega
theorem vd_int {i : Int} (h : Bd 345 i) : Vd 110 0 (.int i) := ⟨gd_int' h, decide_eq_true h⟩
theorem vd_tup {w k n : Nat} {ds : List D} (h : ∀ d ∈ ds, Vd w k d) (hl : ds.length ≤ n) (hn : n ≤ 1000 := by decide) : Vd ((w + 2) * n + 4) (k + 1) (.tup ds) :=
  ⟨gd_tup (fun d m => (h d m).g) hl hn, bndbs_of fun d m => (h d m).b⟩
theorem vd_lst {w k n : Nat} {ds : List D} (h : ∀ d ∈ ds, Vd w k d) (hl : ds.length ≤ n) (hn : n ≤ 1000 := by decide) : Vd ((w + 2) * n + 4) (k + 1) (.lst ds) :=
  ⟨gd_lst (fun d m => (h d m).g) hl hn, bndbs_of fun d m => (h d m).b⟩
def lenB : D → Bool
  | .tup ds => decide (ds.length ≤ 1000)
  | .lst ds => decide (ds.length ≤ 1000)
  | _ => true
theorem lenB_le {d : D} (h : lenB d = true) : ∀ ds, seqOf d = some ds → ds.length ≤ 1000 := by
  intro ds e
  cases d <;> first | (cases e; done) | (cases e; exact of_decide_eq_true h)
def okC (d : D) : Bool := plainR d && (toP d).showable && decide ((toP d).depth ≤ 3) && decide ((toP d).shown.length ≤ 800) && (toP d).shown.cps.toList.all (fun c => decide (c < 16 ^ 8)) && lenB d && bndb d
theorem okC_vd {d : D} (h : okC d = true) : Vd 800 3 d := by
  unfold okC at h
  simp only [Bool.and_eq_true, decide_eq_true_eq, List.all_eq_true] at h
  obtain ⟨⟨⟨⟨⟨⟨h1, h2⟩, h3⟩, h4⟩, h5⟩, h6⟩, h7⟩ := h
  exact ⟨⟨h1, h2, h3, h4, h5, lenB_le h6⟩, h7⟩
theorem typed_of {d : D} (h : plainR d = true) : typed d = true := by cases d <;> first | rfl | cases h
theorem plainRs_all : ∀ {ds : List D}, plainRs ds = true → ∀ d ∈ ds, plainR d = true
  | [], _, d, m => by cases m
  | x :: ds, h, d, m => by
    obtain ⟨h1, h2⟩ := Bool.and_eq_true_iff.mp (show (plainR x && plainRs ds) = true from h)
    rcases List.mem_cons.mp m with rfl | m
    · exact h1
    · exact plainRs_all h2 d m
theorem vd_bl (b : Bool) : Vd 110 0 (.bl b) := ⟨(gd_bl b).mono (by decide) (by decide), rfl⟩
theorem vd_str {i : Int} (h : Bd 345 i) : Vd 1100 3 (.str (Str.ofString (toString i))) := by
  have h10 : i.natAbs < 10 ^ 104 := Nat.lt_of_lt_of_le h (by decide +kernel)
  have l := int_text_length_le10 (k := 104) (by decide) h10
  exact ⟨(gd_str (n := 105) (by rw [PySem.ofString_length]; omega) (cs_of _)).mono (by decide) (by decide), rfl⟩
/-! ### what is drawn -/
theorem e_draw {n : Int} (h0 : 0 < n) (h1 : n < 1000000000) (h : ∀ r, 0 ≤ r → r < n → Q (.int r)) : tf_draw ξ [.deck, .int n] Q := ⟨⟨h0, h1⟩, h⟩
theorem atI_mem {ds : List D} {r : Int} (h0 : 0 ≤ r) (h1 : r < ds.length) : ∃ d, atI ds r = some d ∧ d ∈ ds := by
  obtain ⟨n, rfl⟩ := Int.eq_ofNat_of_zero_le h0
  have hn : n < ds.length := by omega
  exact ⟨ds[n], atI_nat (List.getElem?_eq_getElem hn), List.getElem_mem hn⟩
theorem e_pick {ds : List D} (h0 : 0 < ds.length) (h1 : ds.length < 1000000000) (h : ∀ d ∈ ds, Q d) : tf__law_pick ξ [.deck, .lst ds] Q := by
  refine ⟨rfl, ⟨by omega, by omega⟩, fun r a b => ?_⟩
  obtain ⟨d, e, m⟩ := atI_mem a b
  show (match atI ds r with | some d => Q d | none => False)
  rw [e]
  exact h d m
theorem e_pickT {ds : List D} (h0 : 0 < ds.length) (h1 : ds.length < 1000000000) (h : ∀ d ∈ ds, Q d) : tf__law_pick ξ [.deck, .tup ds] Q := by
  refine ⟨rfl, ⟨by omega, by omega⟩, fun r a b => ?_⟩
  obtain ⟨d, e, m⟩ := atI_mem a b
  show (match atI ds r with | some d => Q d | none => False)
  rw [e]
  exact h d m
theorem ix_any {ds : List D} {r : Int} (h0 : 0 ≤ r) (h1 : r < ds.length) (h : ∀ d ∈ ds, Q d) : gIx (.tup ds) (.int r) Q := by
  obtain ⟨d, e, m⟩ := atI_mem h0 h1
  show (match atI ds r with | some d => Q d | none => False)
  rw [e]
  exact h d m
theorem ints_cons (lo : Int) (n : Nat) : intsD lo (n + 1) = .int lo :: intsD (lo + 1) n := by
  unfold intsD
  rw [List.range_succ_eq_map, List.map_cons, List.map_map]
  congr 1
  · simp
  · apply List.map_congr_left
    intro i _
    show D.int (lo + ((i + 1 : Nat) : Int)) = D.int (lo + 1 + (i : Int))
    congr 1
    omega
theorem p6 (k : Nat) : (10 : Int) ^ (6 * k) < 2 ^ (20 * k) + 1 := by
  have h : (10 ^ (6 * k) : Nat) ≤ 2 ^ (20 * k) := by
    rw [Nat.pow_mul, Nat.pow_mul]
    exact Nat.pow_le_pow_left (by decide) k
  have : ((10 ^ (6 * k) : Nat) : Int) ≤ ((2 ^ (20 * k) : Nat) : Int) := Int.ofNat_le.mpr h
  rw [Int.natCast_pow, Int.natCast_pow] at this
  have e1 : ((10 : Nat) : Int) = 10 := rfl
  have e2 : ((2 : Nat) : Int) = 2 := rfl
  rw [e1, e2] at this
  omega
theorem bd_pow {x : Int} {k : Nat} (h0 : 0 ≤ x) (h : x < 10 ^ (6 * k)) : Bd (20 * k) x := by
  have := p6 k
  unfold Bd
  have e : ((2 ^ (20 * k) : Nat) : Int) = 2 ^ (20 * k) := by rw [Int.natCast_pow]; rfl
  omega
theorem bd_face {f x : Int} {n : Nat} (hf : f = 1 ∨ f = -1) (h : Bd n x) : Bd n (f * x) := by
  rcases hf with rfl | rfl
  · rw [Int.one_mul]; exact h
  · rw [Int.neg_one_mul]; exact h.neg
theorem loop_int {ξ : XW} {De : DEnds} {x1 x2 x3 : Slot} : ∀ (n i : Nat) (f : Int) (s : Slot) (lo : Int), 0 ≤ f → f < 10 ^ (6 * i) → i + n ≤ 200 → (∀ f s, 0 ≤ f → f < 10 ^ (6 * (i + n)) → De.nx [.d .deck, x1, x2, x3, .d (.int f), s]) →
    forD (dgName 5) (dAsg (dBin gAddA (dBin gMulA (dVar 4) (dBin gPow (dC (.int 10)) (dC (.int 6)))) (dCall 2 tf_draw (dCons (dVar 0) (dCons (dBin gPow (dC (.int 10)) (dC (.int 6))) dNil)))) (dgName 4)) ξ De (intsD lo n) [.d .deck, x1, x2, x3, .d (.int f), s]
  | 0, i, f, s, lo, h0, h1, _, h => h f s h0 h1
  | n + 1, i, f, s, lo, h0, h1, hl, h => by
    rw [ints_cons]
    have pw : CPow 10 6 := ⟨by decide, by decide, by decide⟩
    have bf : Bd 4000 f := (bd_pow h0 h1).mono (by omega)
    refine ⟨pw, bf.cmul (Bd.mono (n := 20) Bd.lit (by decide) : Bd 20 ((10 : Int) ^ (6 : Int).toNat)), pw, rfl, e_draw (by decide) (by decide) fun r r0 r1 => ?_⟩
    refine loop_int n (i + 1) _ _ _ ?_ ?_ (by omega) (by rw [show i + 1 + n = i + (n + 1) by omega]; exact h)
    · have : (10 : Int) ^ (6 : Int).toNat = 1000000 := rfl
      rw [this] at r1 ⊢
      omega
    · have e1 : (10 : Int) ^ (6 : Int).toNat = 1000000 := rfl
      rw [e1] at r1 ⊢
      rw [show 6 * (i + 1) = 6 * i + 6 by omega, Int.pow_add]
      generalize (10 : Int) ^ (6 * i) = z at *
      show f * 1000000 + r < z * 1000000
      omega
theorem e_integer {k : Nat} (h0 : 1 ≤ k) (h1 : k ≤ 166) (h : ∀ x, Bd (20 * k) x → Q (.int x)) : tf__law_integer ξ [.deck, .int (k : Int)] Q := by
  have bk : Bd 10 (k : Int) := by unfold Bd; omega
  refine ⟨rfl, e_draw (by decide) (by decide) fun w w0 w1 => ⟨rfl, e_draw (by decide) (by decide) fun f f0 f1 => ⟨Bd.cmul (n := 2) Bd.lit (bd_small (n := 2) (m := 2) f0 f1), ?_⟩⟩⟩
  have hf : 1 - 2 * f = 1 ∨ 1 - 2 * f = -1 := by omega
  have bf : Bd 2 (1 - 2 * f) := by rcases hf with e | e <;> rw [e] <;> exact Bd.lit
  refine ifd (fun hw => ?_) (fun hw => ?_)
  · refine ⟨sz (n := 6) (by decide), ix_any w0 hw ?_⟩
    intro d hd
    obtain ⟨m, rfl, m0, m1⟩ : ∃ m : Int, d = .int m ∧ 0 < m ∧ m ≤ 1000 := by
      simp only [List.mem_cons, List.not_mem_nil, or_false] at hd
      rcases hd with rfl | rfl | rfl | rfl | rfl | rfl <;> exact ⟨_, rfl, by decide, by decide⟩
    refine ⟨rfl, e_draw m0 (by omega) fun r r0 r1 => ?_⟩
    have br : Bd 10 r := by unfold Bd; omega
    exact ⟨bf.cmul br, h _ ((bd_face hf br).mono (by omega))⟩
  · refine ifd (fun hw6 => ?_) (fun hw6 => ?_)
    · refine ⟨Bd.cmul (n := 3) Bd.lit bk, ⟨by omega, by omega⟩, rfl, e_draw (by decide) (by decide) fun r r0 r1 => ?_⟩
      have e : (6 * (k : Int)).toNat = 6 * k := by omega
      rw [e]
      have l : (1000000 : Int) ≤ 10 ^ (6 * k) := by
        have : (10 ^ 6 : Nat) ≤ 10 ^ (6 * k) := Nat.pow_le_pow_right (by decide) (by omega)
        have := Int.ofNat_le.mpr this
        rw [Int.natCast_pow, Int.natCast_pow] at this
        exact this
      have b : Bd (20 * k) (10 ^ (6 * k) - 1 - r) := bd_pow (by omega) (by omega)
      exact ⟨bf.cmul (b.mono (m := 4000) (by omega)), h _ (bd_face hf b)⟩
    · refine ⟨rfl, e_draw (by omega) (by omega) fun r r0 r1 => ⟨⟨by omega, by omega⟩, ?_⟩⟩
      refine loop_int _ 0 0 _ 0 (Int.le_refl _) (by decide) (by omega) ?_
      intro x s x0 x1
      have b : Bd (20 * k) x := bd_pow x0 (Int.lt_of_lt_of_le x1 (by
        have : (10 ^ (6 * (0 + (1 + r).toNat)) : Nat) ≤ 10 ^ (6 * k) := Nat.pow_le_pow_right (by decide) (by omega)
        have := Int.ofNat_le.mpr this
        rw [Int.natCast_pow, Int.natCast_pow] at this
        exact this))
      exact ⟨bf.cmul (b.mono (m := 4000) (by omega)), h _ (bd_face hf b)⟩
end K08
set_option Elab.async false
set_option linter.all false
set_option maxHeartbeats 1000000
set_option maxRecDepth 100000
namespace K08
open PySem PySem.Spec L2 DL
variable {ξ : XT} {Q : D → Prop}
/-! ### what can be shown, ints of up to 12000 bits -/
structure Gb (w k : Nat) (d : D) : Prop where
  pl : DL.plain d = true
  ok : bigOk (toP d) = true
  dp : (toP d).depth ≤ k
  ln : (toP d).shown.length ≤ w
theorem Gb.mono {w k w' k' : Nat} {d : D} (g : Gb w k d) (h : w ≤ w' := by decide) (h' : k ≤ k' := by decide) : Gb w' k' d := ⟨g.pl, g.ok, Nat.le_trans g.dp h', Nat.le_trans g.ln h⟩
theorem gb_int {i : Int} (h : Bd 12000 i) : Gb 4000 0 (.int i) := by
  have h10 : i.natAbs < 10 ^ 3613 := Nat.lt_of_lt_of_le h (by decide +kernel)
  have l := int_text_length_le10 (k := 3613) (by decide) h10
  refine ⟨rfl, ?_, ?_, ?_⟩
  · simp only [toP, bigOk]
    exact decide_eq_true (PySem.Flt.log2_lt_of (by decide) (h.mono (m := 12900) (by decide)))
  · simp only [toP, PyData.depth]; decide
  · show (Str.ofString (toString i)).length ≤ 4000
    rw [PySem.ofString_length]
    omega
theorem gbs {w k : Nat} : ∀ ds : List D, (∀ d ∈ ds, Gb w k d) → plains ds = true ∧ bigOks (toPs ds) = true ∧ PyData.depthAll (toPs ds) ≤ k ∧ ((PyData.shownAll (toPs ds)).map (·.length)).sum ≤ w * ds.length ∧ (PyData.shownAll (toPs ds)).length = ds.length
  | [], _ => by refine ⟨rfl, rfl, ?_, ?_, ?_⟩ <;> simp [toPs, PyData.shownAll, PyData.depthAll]
  | d :: ds, h => by
    obtain ⟨h1, h2, h3, h4, h5⟩ := gbs ds fun x m => h x (List.mem_cons_of_mem _ m)
    have g := h d List.mem_cons_self
    refine ⟨?_, ?_, ?_, ?_, ?_⟩
    · show (DL.plain d && plains ds) = true
      rw [g.pl, h1]; rfl
    · show (bigOk (toP d) && bigOks (toPs ds)) = true
      rw [g.ok, h2]; rfl
    · show PyData.depthAll (toP d :: toPs ds) ≤ k
      have := g.dp
      simp only [PyData.depthAll]
      omega
    · show ((PyData.shownAll (toP d :: toPs ds)).map (·.length)).sum ≤ _
      have := g.ln
      simp only [PyData.shownAll, List.map_cons, List.sum_cons, List.length_cons, Nat.mul_succ]
      omega
    · show (PyData.shownAll (toP d :: toPs ds)).length = _
      simp only [PyData.shownAll, List.length_cons, h5]
theorem gb_tup {w k n : Nat} {ds : List D} (h : ∀ d ∈ ds, Gb w k d) (hl : ds.length ≤ n) : Gb ((w + 2) * n + 4) (k + 1) (.tup ds) := by
  obtain ⟨h1, h2, h3, h4, h5⟩ := gbs ds h
  have m : (w + 2) * ds.length ≤ (w + 2) * n := Nat.mul_le_mul_left _ hl
  refine ⟨h1, h2, ?_, ?_⟩
  · simp only [toP, PyData.depth]; omega
  · have q := tupleText_len_le (PyData.shownAll (toPs ds))
    rw [show (toP (.tup ds)).shown = tupleText (PyData.shownAll (toPs ds)) by simp only [toP, PyData.shown]]
    rw [Nat.add_mul] at m
    omega
theorem Gb.show {w k : Nat} {d : D} (g : Gb w k d) (h : w ≤ 16777216 := by decide) (h' : k ≤ 64 := by decide) : showB d := ⟨g.pl, g.ok, Nat.le_trans g.dp h', Nat.le_trans g.ln (by rw [sizeLine_eq]; exact h)⟩
theorem gb_3 {a b d : Int} (ha : Bd 12000 a) (hb : Bd 12000 b) (hd : Bd 12000 d) : Gb 13000 1 (T3 a b d) := (gb_tup (n := 3) (w := 4000) (k := 0) (ds := [.int a, .int b, .int d]) (by
  simp only [List.mem_cons, List.not_mem_nil, or_false, forall_eq_or_imp, forall_eq]
  exact ⟨gb_int ha, gb_int hb, gb_int hd⟩) (Nat.le_refl 3)).mono
theorem gb_lo {a b d : Int} (ha : Bd 12000 a) (hb : Bd 12000 b) (hd : Bd 12000 d) (p : 1 ≤ d) : Gb 13000 1 (lo a b d) := by
  obtain ⟨x, y, z, l⟩ := lo_is (a := a) (b := b) p
  rw [l.eq]
  exact gb_3 (l.bx _ ha) (l.by_ _ hb) (l.bz _ hd)
theorem eqS {a : Str} {P : D → Prop} (q : P (.bl true)) : gEq (.str a) (.str a) P := by
  show P (.bl (decide (a = a)))
  rw [decide_eq_true rfl]
  exact q
theorem same_b {ds : List D} {w k : Nat} (g : Gb w k (.tup ds)) (q : Q (.bl true)) (h : w ≤ 16777216 := by decide) (h' : k ≤ 64 := by decide) : tf__law_same ξ [.tup ds, .tup ds] Q :=
  .inr ⟨g.show h h', .inr ⟨g.show h h', eqS q⟩⟩
theorem same_lo {a b d : Int} (ha : Bd 12000 a) (hb : Bd 12000 b) (hd : Bd 12000 d) (p : 1 ≤ d) (q : Q (.bl true)) : tf__law_same ξ [lo a b d, lo a b d] Q := same_b (gb_lo ha hb hd p) q
theorem same_r {x : D} (s : showR x) (q : Q (.bl true)) : tf__law_same ξ [x, x] Q := .inl ⟨s, .inl ⟨s, eqS q⟩⟩
/-! ### powers -/
theorem bd_pu : ∀ k : Nat, Bd (k + 1) (pu k).1 ∧ Bd (k + 1) (pu k).2
  | 0 => ⟨.lit (by decide), .lit (by decide)⟩
  | k + 1 => by
    obtain ⟨h1, h2⟩ := bd_pu k
    exact ⟨h2.mono (by omega), h1.add h2⟩
theorem bd_pd : ∀ k : Nat, Bd (k + 1) (pd k).1 ∧ Bd (k + 1) (pd k).2
  | 0 => ⟨.lit (by decide), .lit (by decide)⟩
  | k + 1 => by
    obtain ⟨h1, h2⟩ := bd_pd k
    exact ⟨h2.sub h1, h1.mono (by omega)⟩
theorem bd_pw {n : Int} {N : Nat} (h : n.natAbs ≤ N) : Bd (N + 1) (pw n).1 ∧ Bd (N + 1) (pw n).2 := by
  by_cases hn : 0 ≤ n
  · rw [pw_pu hn]
    have := bd_pu n.toNat
    exact ⟨this.1.mono (by omega), this.2.mono (by omega)⟩
  · rw [pw_pd (by omega)]
    have := bd_pd (-n).toNat
    exact ⟨this.1.mono (by omega), this.2.mono (by omega)⟩
abbrev PB : TDS := (dIfS (dTest (dBin gGt (dVar 0) (dC (.int 0))))
    (dPar 1 2 (dCons (dVar 2) (dCons (dBin gAddA (dVar 1) (dVar 2)) dNil)))
    (dPar 1 2 (dCons (dBin gSub (dVar 2) (dVar 1)) (dCons (dVar 1) dNil))))
abbrev LB : TDS := (dAsg (dIf (dTest (dBin gGt (dVar 0) (dC (.int 0)))) (dTup (dCons (dVar 2) (dCons (dBin gAddA (dVar 1) (dVar 2)) dNil))) (dTup (dCons (dBin gSub (dVar 2) (dVar 1)) (dCons (dVar 1) dNil)))) (dgTup 2 (dgCons (dgName 1) (dgCons (dgName 2) dgNil))))
abbrev PE_ (n : Int) (p : Pr) (s : Slot) : SE := [.d (.int n), .d (.int p.1), .d (.int p.2), s]
theorem pu_loop {ζ : XW} {De : DEnds} {n : Int} (hn : 0 < n) : ∀ (items : List D) (k : Nat) (s : Slot), (∀ s, De.nx (PE_ n (pu (k + items.length)) s)) → forD (dgName 3) PB ζ De items (PE_ n (pu k) s)
  | [], k, s, h => h s
  | d :: ds, k, s, h => by
    have z := pu_loop (ζ := ζ) (De := De) hn ds (k + 1) (.d d) (by rw [Nat.add_right_comm]; exact h)
    show (if decide (n > 0) = true then _ else _)
    rw [decide_eq_true (show n > 0 from hn)]
    exact z
theorem pd_loop {ζ : XW} {De : DEnds} {n : Int} (hn : ¬ n > 0) : ∀ (items : List D) (k : Nat) (s : Slot), (∀ s, De.nx (PE_ n (pd (k + items.length)) s)) → forD (dgName 3) PB ζ De items (PE_ n (pd k) s)
  | [], k, s, h => h s
  | d :: ds, k, s, h => by
    have z := pd_loop (ζ := ζ) (De := De) hn ds (k + 1) (.d d) (by rw [Nat.add_right_comm]; exact h)
    show (if decide (n > 0) = true then _ else _)
    rw [decide_eq_false hn]
    exact z
theorem lu_loop {ζ : XW} {De : DEnds} {n : Int} (hn : 0 < n) : ∀ (items : List D) (k : Nat) (s : Slot), (∀ s, De.nx (PE_ n (pu (k + items.length)) s)) → forD (dgName 3) LB ζ De items (PE_ n (pu k) s)
  | [], k, s, h => h s
  | d :: ds, k, s, h => by
    have z := lu_loop (ζ := ζ) (De := De) hn ds (k + 1) (.d d) (by rw [Nat.add_right_comm]; exact h)
    show (if decide (n > 0) = true then _ else _)
    rw [decide_eq_true (show n > 0 from hn)]
    exact ⟨szN 2, rfl, z⟩
theorem ld_loop {ζ : XW} {De : DEnds} {n : Int} (hn : ¬ n > 0) : ∀ (items : List D) (k : Nat) (s : Slot), (∀ s, De.nx (PE_ n (pd (k + items.length)) s)) → forD (dgName 3) LB ζ De items (PE_ n (pd k) s)
  | [], k, s, h => h s
  | d :: ds, k, s, h => by
    have z := ld_loop (ζ := ζ) (De := De) hn ds (k + 1) (.d d) (by rw [Nat.add_right_comm]; exact h)
    show (if decide (n > 0) = true then _ else _)
    rw [decide_eq_false hn]
    exact ⟨szN 2, rfl, z⟩
theorem ints_len (n : Nat) : (intsD 0 n).length = n := by
  unfold intsD
  rw [List.length_map, List.length_range]
theorem abs_nat (n : Int) : (if n < 0 then -n else n).toNat = n.natAbs := by split <;> omega
theorem x_power {n : Int} (h0 : n.natAbs ≤ 2000) (q : Q (T3 (pw n).1 (pw n).2 1)) : tf_power ξ [.int n] Q := by
  show T_power (fun x _ => ξ x) { nx := fun _ => Q .non, rt := Q } [.d (.int n), .un, .un, .un]
  unfold T_power
  refine ⟨rfl, e_ipi rfl ?_⟩
  show (if decide ((if n < 0 then -n else n) > 2000) = true then _ else _)
  rw [decide_eq_false (by split <;> omega : ¬ (if n < 0 then -n else n) > 2000)]
  show (-(2 ^ 62) ≤ (if n < 0 then -n else n) ∧ (if n < 0 then -n else n) < 2 ^ 62) ∧ forD (dgName 3) PB _ _ (intsD 0 (if n < 0 then -n else n).toNat) [.d (.int n), .d (.int 1), .d (.int 0), .un]
  rw [abs_nat]
  refine ⟨by split <;> omega, ?_⟩
  by_cases hn : 0 < n
  · refine pu_loop (k := 0) hn _ _ fun s => ?_
    rw [ints_len, Nat.zero_add, show pu n.natAbs = pw n by rw [pw_pu (by omega)]; congr 1; omega]
    exact ⟨szN 3, q⟩
  · refine pd_loop (k := 0) (by omega) _ _ fun s => ?_
    rw [ints_len, Nat.zero_add, show pd n.natAbs = pw n by rw [pw_pd (by omega)]; congr 1; omega]
    exact ⟨szN 3, q⟩
theorem e_lpower {n : Int} (h0 : n.natAbs ≤ 2000) (q : Q (.tup [.int (pw n).1, .int (pw n).2])) : tf__law_power ξ [.int n] Q := by
  show T__law_power (fun _ _ => False) { nx := fun _ => Q .non, rt := Q } [.d (.int n), .un, .un, .un]
  unfold T__law_power
  refine ⟨szN 2, rfl, ?_⟩
  show (-(2 ^ 62) ≤ (if n < 0 then -n else n) ∧ (if n < 0 then -n else n) < 2 ^ 62) ∧ forD (dgName 3) LB _ _ (intsD 0 (if n < 0 then -n else n).toNat) [.d (.int n), .d (.int 1), .d (.int 0), .un]
  rw [abs_nat]
  refine ⟨by split <;> omega, ?_⟩
  by_cases hn : 0 < n
  · refine lu_loop (k := 0) hn _ _ fun s => ?_
    rw [ints_len, Nat.zero_add, show pu n.natAbs = pw n by rw [pw_pu (by omega)]; congr 1; omega]
    exact ⟨szN 2, q⟩
  · refine ld_loop (k := 0) (by omega) _ _ fun s => ?_
    rw [ints_len, Nat.zero_add, show pd n.natAbs = pw n by rw [pw_pd (by omega)]; congr 1; omega]
    exact ⟨szN 2, q⟩
end K08
set_option Elab.async false
set_option linter.all false
set_option maxHeartbeats 1000000
set_option maxRecDepth 100000
namespace K08
open PySem PySem.Spec L2 DL
variable {ξ : XT} {Q : D → Prop}
/-! ### the sign of a power -/
theorem eqBB {b : Bool} {P : D → Prop} (q : P (.bl true)) : gEq (.bl b) (.bl b) P := by
  cases b <;> exact ⟨⟨rfl, rfl⟩, q⟩
theorem x_sop1 {n : Nat} {a b : Int} (ha : Bd n a) (hb : Bd n b) (l : n ≤ 5000) (h : (0 < 2 * a + b ∧ 0 ≤ b) ∨ ((2 * a + b < 0 ∨ b < 0) ∧ (0 < 2 * a + b ∨ 0 < b) ∧ ((2 * a + b) * (2 * a + b) > 5 * b * b ↔ 2 * a + b > 0))) (q : Q (.int 1)) : tf_sign_of_parts ξ [.int a, .int b] Q := by
  have hn : Bd (n + 3) (2 * a + b) := ((Bd.mul (n := 2) Bd.lit ha).mono (m := n + 2) (by omega)).add (hb.mono (by omega))
  have h5 : Bd (n + 3) (5 * b) := (Bd.mul (n := 3) Bd.lit hb).mono (by omega)
  refine ⟨Bd.cmul (n := 2) Bd.lit ha (by omega), ?_⟩
  have last : ((2 * a + b) * (2 * a + b) > 5 * b * b ↔ 2 * a + b > 0) → CMulW (2 * a + b) (2 * a + b) ∧ CMulW 5 b ∧ CMulW (5 * b) b ∧ gEq (.bl (decide ((2 * a + b) * (2 * a + b) > 5 * b * b))) (.bl (decide (2 * a + b > 0))) fun d => match d with
      | .bl k => if k = true then Q (.int 1) else Q (.int (-1))
      | _ => False := fun w => by
    refine ⟨hn.cmul hn (by omega), Bd.cmul (n := 3) Bd.lit hb (by omega), h5.cmul hb (by omega), ?_⟩
    rw [show decide ((2 * a + b) * (2 * a + b) > 5 * b * b) = decide (2 * a + b > 0) from decide_eq_decide.mpr w]
    exact eqBB q
  refine ifd (fun h1 => ?_) (fun h1 => ?_)
  · refine ifd (fun h2 => ?_) (fun h2 => ?_)
    · refine ifd (fun h3 => q) (fun h3 => ?_)
      omega
    · refine ifd (fun h3 => ?_) (fun h3 => ?_)
      · refine ifd (fun h4 => ?_) (fun h4 => ?_)
        · omega
        · omega
      · rcases h with h | ⟨_, _, w⟩
        · omega
        · exact last w
  · refine ifd (fun h3 => ?_) (fun h3 => ?_)
    · refine ifd (fun h4 => ?_) (fun h4 => ?_)
      · omega
      · rcases h with h | ⟨_, _, w⟩
        · omega
        · exact last w
    · omega
theorem sop_pw (n : Int) : (0 < 2 * (pw n).1 + (pw n).2 ∧ 0 ≤ (pw n).2) ∨ ((2 * (pw n).1 + (pw n).2 < 0 ∨ (pw n).2 < 0) ∧ (0 < 2 * (pw n).1 + (pw n).2 ∨ 0 < (pw n).2) ∧ ((2 * (pw n).1 + (pw n).2) * (2 * (pw n).1 + (pw n).2) > 5 * (pw n).2 * (pw n).2 ↔ 2 * (pw n).1 + (pw n).2 > 0)) := by
  by_cases h : 0 ≤ n
  · rw [pw_pu h]
    have l := (luc_ge n.toNat).1
    have := pu_nn n.toNat
    unfold luc at l
    left
    omega
  · rw [pw_pd (by omega)]
    obtain ⟨k, e⟩ : ∃ k : Nat, (-n).toNat = k + 1 := ⟨(-n).toNat - 1, by omega⟩
    rw [e]
    obtain ⟨e1, e2⟩ := pd_pu (k + 1)
    have p := (pu_pos k).1
    have l := (luc_ge (k + 1)).1
    have s := sg_luc (k + 1)
    have nn := pu_nn (k + 1)
    rw [e1, e2]
    right
    rcases sg_or ((k + 1 : Nat) : Int) with w | w
    · rw [w] at s ⊢
      have f : 2 * (1 * ((pu (k + 1)).1 + (pu (k + 1)).2)) + -(1 * (pu (k + 1)).2) = luc (k + 1) := by unfold luc; omega
      rw [f]
      have g : 5 * -(1 * (pu (k + 1)).2) * -(1 * (pu (k + 1)).2) = 5 * (pu (k + 1)).2 * (pu (k + 1)).2 := by grind
      rw [g]
      omega
    · rw [w] at s ⊢
      have f : 2 * (-1 * ((pu (k + 1)).1 + (pu (k + 1)).2)) + -(-1 * (pu (k + 1)).2) = -luc (k + 1) := by unfold luc; omega
      rw [f]
      have g : 5 * -(-1 * (pu (k + 1)).2) * -(-1 * (pu (k + 1)).2) = 5 * (pu (k + 1)).2 * (pu (k + 1)).2 := by grind
      rw [g, Int.neg_mul_neg]
      omega
theorem gs_pw {n : Int} (h : n.natAbs ≤ 2000) : Gs 2001 (pw n).1 (pw n).2 1 := ⟨(bd_pw h).1, (bd_pw h).2, Bd.mono (n := 1) (.lit (by decide)) (by decide), by decide⟩
theorem x_sign {n : Int} (h : n.natAbs ≤ 2000) (q : Q (.int 1)) : tf_sign ξ [T3 (pw n).1 (pw n).2 1] Q :=
  ⟨rfl, e_need (by decide) ⟨rfl, x_sop1 (gs_pw h).ba (gs_pw h).bb (by decide) (sop_pw n) q⟩⟩
/-! ### the integers beside a power -/
def lowv (n : Int) : Int := if n > 0 then 2 * (pw n).1 + (pw n).2 - (if n % 2 = 0 then 1 else 0) else (if n = 0 then 1 else 0)
theorem x_ibelow {n : Nat} {a b v : Int} (ha : Bd n a) (hb : Bd n b) (l : n ≤ 5000) (h : ∀ r : Int, 0 ≤ r → r * r ≤ 5 * b * b → 5 * b * b < (r + 1) * (r + 1) → (2 * a + b + (if b < 0 then -r - 1 else r)) / 2 = v) (q : Q (.int v)) : tf_integer_below ξ [T3 a b 1] Q := by
  have h5 : Bd (n + 3) (5 * b) := (Bd.mul (n := 3) Bd.lit hb).mono (by omega)
  have sq : 0 ≤ 5 * b * b := by
    rw [Int.mul_assoc]
    have : 0 ≤ b * b := by
      rcases Int.le_total 0 b with q | q
      · exact Int.mul_nonneg q q
      · have := Int.mul_nonneg (a := -b) (b := -b) (by omega) (by omega)
        rwa [Int.neg_mul_neg] at this
    omega
  have lg : (5 * b * b).toNat.log2 < 13500 := by
    have h : Bd (n + 3 + n) (5 * b * b) := h5.mul hb
    have e : (5 * b * b).toNat = (5 * b * b).natAbs := by omega
    rw [e]
    exact PySem.Flt.log2_lt_of (by decide) (h.mono (m := 13500) (by omega))
  have fin : ∀ r : Int, (2 * a + b + r) / 2 = v → CMulW 2 a ∧ CMulW 2 1 ∧ CDivB (2 * a + b + r) (2 * 1) ∧ Q (.int ((2 * a + b + r).fdiv (2 * 1))) := fun r w => by
    refine ⟨Bd.cmul (n := 2) Bd.lit ha (by omega), Bd.cmul (n := 2) (m := 1) Bd.lit Bd.lit, ⟨by decide, .inr (by decide)⟩, ?_⟩
    rw [show (2 : Int) * 1 = 2 from rfl, Int.fdiv_eq_ediv_of_nonneg _ (by decide), w]
    exact q
  refine ⟨rfl, e_need (by decide) ⟨rfl, Bd.cmul (n := 3) Bd.lit hb (by omega), h5.cmul hb (by omega), ⟨sq, lg⟩, fun r r0 r1 r2 => ?_⟩⟩
  have w := h r r0 r1 r2
  refine ifd (fun hb0 => ?_) (fun hb0 => ?_)
  · rw [if_pos hb0] at w
    exact fin _ w
  · rw [if_neg hb0] at w
    exact fin _ w
theorem ib_pw (n : Int) (r : Int) (r0 : 0 ≤ r) (r1 : r * r ≤ 5 * (pw n).2 * (pw n).2) (r2 : 5 * (pw n).2 * (pw n).2 < (r + 1) * (r + 1)) : (2 * (pw n).1 + (pw n).2 + (if (pw n).2 < 0 then -r - 1 else r)) / 2 = lowv n := by
  unfold lowv
  by_cases h : 0 < n
  · rw [if_pos h, pw_pu (by omega)] at *
    have l : 2 * (pu n.toNat).1 + (pu n.toNat).2 = luc n.toNat := rfl
    rw [l, if_neg (by have := pu_nn n.toNat; omega)]
    have pr : sg (n.toNat : Int) = if n % 2 = 0 then 1 else -1 := by
      unfold sg
      rw [show ((n.toNat : Nat) : Int) = n by omega]
    rcases sg_or (n.toNat : Int) with w | w
    · have par : n % 2 = 0 := by rw [w] at pr; split at pr <;> omega
      rw [if_pos par]
      have := root_even (by omega) w r0 r1 r2
      omega
    · have par : ¬ n % 2 = 0 := by rw [w] at pr; split at pr <;> omega
      rw [if_neg par]
      have := root_odd w r0 r1 r2
      omega
  · rw [if_neg h]
    by_cases h0 : n = 0
    · subst h0
      rw [pw_zero] at *
      have : r = 0 := by
        have : ¬ 1 ≤ r := fun z => by
          have := sq_le (x := 1) (y := r) (by decide) z
          simp only [Int.mul_zero] at r1
          omega
        omega
      subst this
      decide
    · rw [if_neg h0]
      rw [pw_pd (by omega)] at *
      obtain ⟨k, e⟩ : ∃ k : Nat, (-n).toNat = k + 1 := ⟨(-n).toNat - 1, by omega⟩
      rw [e] at r1 r2 ⊢
      obtain ⟨e1, e2⟩ := pd_pu (k + 1)
      have p := (pu_pos k).1
      have nn := pu_nn (k + 1)
      have g : 5 * (pd (k + 1)).2 * (pd (k + 1)).2 = 5 * (pu (k + 1)).2 * (pu (k + 1)).2 := by
        rw [e2]
        rcases sg_or ((k + 1 : Nat) : Int) with w | w <;> rw [w] <;> grind
      rw [g] at r1 r2
      have l : 2 * (pu (k + 1)).1 + (pu (k + 1)).2 = luc (k + 1) := rfl
      rw [e1, e2]
      rcases sg_or ((k + 1 : Nat) : Int) with w | w
      · have k2 : 2 ≤ k + 1 := by
          cases k with
          | zero => cases w
          | succ k => omega
        have := root_even k2 w r0 r1 r2
        rw [w]
        split <;> omega
      · have := root_odd w r0 r1 r2
        rw [w]
        split <;> omega
theorem ia_pw (n : Int) (r : Int) (r0 : 0 ≤ r) (r1 : r * r ≤ 5 * -(pw n).2 * -(pw n).2) (r2 : 5 * -(pw n).2 * -(pw n).2 < (r + 1) * (r + 1)) : (2 * -(pw n).1 + -(pw n).2 + (if -(pw n).2 < 0 then -r - 1 else r)) / 2 = -(lowv n + if n = 0 then 0 else 1) := by
  have g0 : 5 * -(pw n).2 * -(pw n).2 = 5 * (pw n).2 * (pw n).2 := by grind
  rw [g0] at r1 r2
  unfold lowv
  by_cases h : 0 < n
  · rw [if_pos h, if_neg (by omega : ¬ n = 0)]
    rw [pw_pu (by omega)] at *
    obtain ⟨k, e⟩ : ∃ k : Nat, n.toNat = k + 1 := ⟨n.toNat - 1, by omega⟩
    have p := (pu_pos k).1
    rw [e] at r1 r2 ⊢
    have l : 2 * (pu (k + 1)).1 + (pu (k + 1)).2 = luc (k + 1) := rfl
    have nn := pu_nn (k + 1)
    rw [if_pos (by omega)]
    have pr : sg ((k + 1 : Nat) : Int) = if n % 2 = 0 then 1 else -1 := by
      unfold sg
      rw [show (((k + 1 : Nat)) : Int) = n by omega]
    rcases sg_or ((k + 1 : Nat) : Int) with w | w
    · have par : n % 2 = 0 := by rw [w] at pr; split at pr <;> omega
      rw [if_pos par]
      have := root_even (by omega) w r0 r1 r2
      omega
    · have par : ¬ n % 2 = 0 := by rw [w] at pr; split at pr <;> omega
      rw [if_neg par]
      have := root_odd w r0 r1 r2
      omega
  · rw [if_neg h]
    by_cases h0 : n = 0
    · subst h0
      rw [pw_zero] at *
      have : r = 0 := by
        have : ¬ 1 ≤ r := fun z => by
          have := sq_le (x := 1) (y := r) (by decide) z
          simp only [Int.mul_zero] at r1
          omega
        omega
      subst this
      decide
    · rw [if_neg h0, if_neg h0]
      rw [pw_pd (by omega)] at *
      obtain ⟨k, e⟩ : ∃ k : Nat, (-n).toNat = k + 1 := ⟨(-n).toNat - 1, by omega⟩
      rw [e] at r1 r2 ⊢
      obtain ⟨e1, e2⟩ := pd_pu (k + 1)
      have p := (pu_pos k).1
      have nn := pu_nn (k + 1)
      have g : 5 * (pd (k + 1)).2 * (pd (k + 1)).2 = 5 * (pu (k + 1)).2 * (pu (k + 1)).2 := by
        rw [e2]
        rcases sg_or ((k + 1 : Nat) : Int) with w | w <;> rw [w] <;> grind
      rw [g] at r1 r2
      have l : 2 * (pu (k + 1)).1 + (pu (k + 1)).2 = luc (k + 1) := rfl
      rw [e1, e2]
      rcases sg_or ((k + 1 : Nat) : Int) with w | w
      · have k2 : 2 ≤ k + 1 := by
          cases k with
          | zero => cases w
          | succ k => omega
        have := root_even k2 w r0 r1 r2
        rw [w]
        split <;> omega
      · have := root_odd w r0 r1 r2
        rw [w]
        split <;> omega
theorem x_ib {n : Int} (h : n.natAbs ≤ 2000) (q : Q (.int (lowv n))) : tf_integer_below ξ [T3 (pw n).1 (pw n).2 1] Q := x_ibelow (gs_pw h).ba (gs_pw h).bb (by decide) (ib_pw n) q
theorem x_ia {n : Int} (h : n.natAbs ≤ 2000) (q : Q (.int (lowv n + if n = 0 then 0 else 1))) : tf_integer_above ξ [T3 (pw n).1 (pw n).2 1] Q :=
  ⟨rfl, e_need (by decide) ⟨rfl, szN 3, rfl, x_ibelow (a := -(pw n).1) (b := -(pw n).2) (gs_pw h).ba.neg (gs_pw h).bb.neg (by decide) (ia_pw n) (by
    show Q (.int (-(-(lowv n + if n = 0 then 0 else 1))))
    rw [Int.neg_neg]
    exact q)⟩⟩
end K08
set_option Elab.async false
set_option linter.all false
set_option maxHeartbeats 1000000
set_option maxRecDepth 100000
namespace K08
open PySem PySem.Spec L2 DL
variable {ξ : XT} {Q : D → Prop}
/-! ### powers are right -/
def PR1 : TDS := (dAsg (dTup (dCons (dCall 1 tf__law_power (dCons (dVar 1) dNil)) (dCons (dTup (dCons (dCall 2 tf__law_integer (dCons (dVar 0) (dCons (dC (.int 5)) dNil))) (dCons (dCall 2 tf__law_integer (dCons (dVar 0) (dCons (dC (.int 5)) dNil))) (dCons (dBin gAddA (dC (.int 1)) (dCall 2 tf_draw (dCons (dVar 0) (dCons (dC (.int 12)) dNil)))) dNil)))) dNil))) (dgTup 2 (dgCons (dgTup 2 (dgCons (dgName 3) (dgCons (dgName 4) dgNil))) (dgCons (dgName 5) dgNil))))
def PR2 : TDS := (dAsg (dTup (dCons (dTup (dCons (dVar 3) (dCons (dVar 4) (dCons (dC (.int 1)) dNil)))) (dCons (dCall 1 tf__law_power (dCons (dVar 2) dNil)) (dCons (dCallX 1 tf_power (dCons (dVar 1) dNil)) (dCons (dCallX 1 tf_power (dCons (dVar 2) dNil)) dNil))))) (dgTup 4 (dgCons (dgName 6) (dgCons (dgName 7) (dgCons (dgName 8) (dgCons (dgName 9) dgNil))))))
def PR3 : TDS := (dIfS (dtNot (dTest (dCall 2 tf__law_same (dCons (dTup (dCons (dVar 8) (dCons (dCallKX 1 1 [0] tf_power (dCons (dVar 1) dNil)) (dCons (dCallX 1 tf_sign (dCons (dVar 8) dNil)) (dCons (dVar 9) dNil))))) (dCons (dTup (dCons (dVar 6) (dCons (dVar 6) (dCons (dC (.int 1)) (dCons (dBin gAddA (dVar 7) (dTup (dCons (dC (.int 1)) dNil))) dNil))))) dNil))))) (dRet (dC (.bl false))) dNext)
def PR4 : TDS := (dIfS (dtNot (dTest (dCall 2 tf__law_same (dCons (dCallX 1 tf_conjugate (dCons (dVar 8) dNil)) (dCons (dTup (dCons (dBin gAddA (dVar 3) (dVar 4)) (dCons (dUn gNeg (dVar 4)) (dCons (dC (.int 1)) dNil)))) dNil))))) (dRet (dC (.bl false))) dNext)
def PR5 : TDS := (dAsg (dIf (dTest (dBin gGt (dVar 1) (dC (.int 0)))) (dBin gSub (dBin gAddA (dBin gMulA (dC (.int 2)) (dVar 3)) (dVar 4)) (dCB gInt (dCons (dBin gEq (dBin gMod (dCB gInt (dCons (dVar 1) dNil)) (dC (.int 2))) (dC (.int 0))) dNil))) (dCB gInt (dCons (dBin gEq (dVar 1) (dC (.int 0))) dNil))) (dgName 10))
def PR6 : TDS := (dIfS (dtNot (dTest (dCall 2 tf__law_same (dCons (dTup (dCons (dCallX 1 tf_integer_below (dCons (dVar 8) dNil)) (dCons (dCallX 1 tf_integer_above (dCons (dVar 8) dNil)) dNil))) (dCons (dTup (dCons (dVar 10) (dCons (dBin gAddA (dVar 10) (dCB gInt (dCons (dBin gNe (dVar 1) (dC (.int 0))) dNil))) dNil))) dNil))))) (dRet (dC (.bl false))) dNext)
def PR7 : TDS := (dIfS (dtNot (dTest (dCall 2 tf__law_same (dCons (dTup (dCons (dCallX 2 tf_times (dCons (dVar 8) (dCons (dVar 9) dNil))) (dCons (dCallX 2 tf_times (dCons (dVar 5) (dCons (dVar 8) dNil))) dNil))) (dCons (dTup (dCons (dCall 3 tf__law_times (dCons (dTup (dCons (dVar 3) (dCons (dVar 4) (dCons (dC (.int 1)) dNil)))) (dCons (dBin gIx (dVar 7) (dC (.int 0))) (dCons (dBin gIx (dVar 7) (dC (.int 1))) dNil)))) (dCons (dCall 3 tf__law_times (dCons (dVar 5) (dCons (dVar 3) (dCons (dVar 4) dNil)))) dNil))) dNil))))) (dRet (dC (.bl false))) dNext)
def PR8 : TDS := (dIfS (dtAnd (dTest (dBin gLe (dCB gAbs (dCons (dBin gAddA (dVar 1) (dVar 2)) dNil)) (dC (.int 2000)))) (dtNot (dTest (dCall 2 tf__law_same (dCons (dCallX 2 tf_times (dCons (dVar 9) (dCons (dVar 8) dNil))) (dCons (dCallX 1 tf_power (dCons (dBin gAddA (dVar 1) (dVar 2)) dNil)) dNil)))))) (dRet (dC (.bl false))) dNext)
def PR9 : TDS := (dRet (dCall 2 tf__law_same (dCons (dTup (dCons (dCallX 2 tf_quotient (dCons (dTup (dCons (dC (.int 1)) (dCons (dC (.int 0)) (dCons (dC (.int 1)) dNil)))) (dCons (dVar 8) dNil))) (dCons (dCallX 2 tf_quotient (dCons (dCallX 2 tf_times (dCons (dVar 5) (dCons (dVar 8) dNil))) (dCons (dVar 8) dNil))) dNil))) (dCons (dTup (dCons (dBin gAddA (dCall 1 tf__law_power (dCons (dUn gNeg (dVar 1)) dNil)) (dTup (dCons (dC (.int 1)) dNil))) (dCons (dCall 3 tf__law_least (dCons (dBin gIx (dVar 5) (dC (.int 0))) (dCons (dBin gIx (dVar 5) (dC (.int 1))) (dCons (dBin gIx (dVar 5) (dC (.int 2))) dNil)))) dNil))) dNil))))
theorem PR_eq : T__law_are_powers_right = (dSeq PR1 (dSeq PR2 (dSeq PR3 (dSeq PR4 (dSeq PR5 (dSeq PR6 (dSeq PR7 (dSeq PR8 PR9)))))))) := rfl
section
variable {De : DEnds} {ζ : XW} {U : TDS} {n m pa pb pd : Int}
abbrev EP (n m pa pb pd : Int) (s6 s7 s8 s9 s10 : Slot) : SE := [.d .deck, .d (.int n), .d (.int m), .d (.int (pw n).1), .d (.int (pw n).2), .d (T3 pa pb pd), s6, s7, s8, s9, s10]
abbrev PT (n : Int) : D := T3 (pw n).1 (pw n).2 1
abbrev EF (n m pa pb pd : Int) (s10 : Slot) : SE := EP n m pa pb pd (.d (PT n)) (.d (.tup [.int (pw m).1, .int (pw m).2])) (.d (PT n)) (.d (PT m)) s10
structure Pp (a b d : Int) : Prop where
  ba : Bd 100 a
  bb : Bd 100 b
  bd : Bd 100 d
  p : 1 ≤ d
theorem Pp.gs (h : Pp pa pb pd) : Gs 100 pa pb pd := ⟨h.ba, h.bb, h.bd, h.p⟩
theorem pr1 (hn : n.natAbs ≤ 2000) {s3 s4 s5 s6 s7 s8 s9 s10 : Slot} (h : ∀ pa pb pd, Pp pa pb pd → U ζ De (EP n m pa pb pd s6 s7 s8 s9 s10)) : dSeq PR1 U ζ De [.d .deck, .d (.int n), .d (.int m), s3, s4, s5, s6, s7, s8, s9, s10] :=
  ⟨rfl, e_lpower hn ⟨rfl, e_integer (k := 5) (by decide) (by decide) fun pa ha => ⟨rfl, e_integer (k := 5) (by decide) (by decide) fun pb hb => ⟨rfl, e_draw (by decide) (by decide) fun r r0 r1 => ⟨szN 3, szN 2, rfl, rfl, h pa pb (1 + r) ⟨ha, hb, by unfold Bd; omega, by omega⟩⟩⟩⟩⟩⟩
theorem pr2 (hn : n.natAbs ≤ 2000) (hm : m.natAbs ≤ 2000) {s6 s7 s8 s9 s10 : Slot} (h : U ζ De (EF n m pa pb pd s10)) : dSeq PR2 U ζ De (EP n m pa pb pd s6 s7 s8 s9 s10) :=
  ⟨szN 3, rfl, e_lpower hm ⟨rfl, x_power hn ⟨rfl, x_power hm ⟨szN 4, rfl, h⟩⟩⟩⟩
theorem gb_pw (hn : n.natAbs ≤ 2000) : Gb 13000 1 (PT n) := gb_3 ((bd_pw hn).1.mono (by decide)) ((bd_pw hn).2.mono (by decide)) (Bd.mono (n := 1) (.lit (by decide)) (by decide))
theorem gb_1 {i : Int} (h : Bd 12000 i) : Gb 13000 1 (.int i) := (gb_int h).mono
theorem pr3 (hn : n.natAbs ≤ 2000) (hm : m.natAbs ≤ 2000) {s10 : Slot} (h : U ζ De (EF n m pa pb pd s10)) : dSeq PR3 U ζ De (EF n m pa pb pd s10) := by
  refine ⟨⟨rfl, rfl⟩, x_power hn ⟨rfl, x_sign hn ⟨szN 4, ?_⟩⟩⟩
  refine ⟨szN 1, szN 3, szN 4, rfl, ?_⟩
  refine same_b (ds := [PT n, PT n, .int 1, PT m]) (w := 53000) (k := 2) ((gb_tup (ds := [PT n, PT n, .int 1, PT m]) (n := 4) (w := 13000) (k := 1) ?_ (Nat.le_refl 4)).mono) h
  simp only [List.mem_cons, List.not_mem_nil, or_false, forall_eq_or_imp, forall_eq]
  exact ⟨gb_pw hn, gb_pw hn, gb_1 (Bd.mono (n := 1) (.lit (by decide)) (by decide)), gb_pw hm⟩
theorem pr4 (hn : n.natAbs ≤ 2000) {s10 : Slot} (h : U ζ De (EF n m pa pb pd s10)) : dSeq PR4 U ζ De (EF n m pa pb pd s10) := by
  have g := gs_pw hn
  refine ⟨rfl, x_conj g (by decide) ?_⟩
  rw [lo_1]
  refine ⟨szN 3, rfl, ?_⟩
  exact same_b (gb_3 ((g.ba.add g.bb).mono (by decide)) (g.bb.neg.mono (by decide)) (Bd.mono (n := 1) (.lit (by decide)) (by decide))) h
theorem gi_bl {b : Bool} {P : D → Prop} (h : P (.int (if b then 1 else 0))) : gInt [.bl b] P := h
theorem pr5 (hn : n.natAbs ≤ 2000) {s10 : Slot} (h : U ζ De (EF n m pa pb pd (.d (.int (lowv n))))) : dSeq PR5 U ζ De (EF n m pa pb pd s10) := by
  have g := gs_pw hn
  unfold PR5
  refine ifd (fun h0 => ?_) (fun h0 => ?_)
  · have e : lowv n = 2 * (pw n).1 + (pw n).2 - (if n % 2 = 0 then 1 else 0) := if_pos h0
    rw [e] at h
    refine ⟨Bd.cmul (n := 2) Bd.lit g.ba (by decide), (by show (0 : Int) < 2; decide), ?_⟩
    show U ζ De (EF n m pa pb pd (.d (.int (2 * (pw n).1 + (pw n).2 - (if decide (n % 2 = 0) = true then 1 else 0)))))
    simp only [decide_eq_true_eq]
    exact h
  · have e : lowv n = (if n = 0 then 1 else 0) := if_neg h0
    rw [e] at h
    show U ζ De (EF n m pa pb pd (.d (.int (if decide (n = 0) = true then 1 else 0))))
    simp only [decide_eq_true_eq]
    exact h
theorem lowv_bd (hn : n.natAbs ≤ 2000) : Bd 2010 (lowv n) := by
  have g := gs_pw hn
  unfold lowv
  have z : ∀ {p : Prop} [Decidable p], Bd 2006 (if p then 1 else 0) := fun {p} _ => by split <;> exact Bd.mono (n := 1) (.lit (by decide)) (by decide)
  split
  · exact ((((Bd.mul (n := 2) Bd.lit g.ba).mono (m := 2005) (by decide)).add (g.bb.mono (by decide))).sub z).mono (by decide)
  · exact z.mono (by decide)
theorem pr6 (hn : n.natAbs ≤ 2000) (h : U ζ De (EF n m pa pb pd (.d (.int (lowv n))))) : dSeq PR6 U ζ De (EF n m pa pb pd (.d (.int (lowv n)))) := by
  refine ⟨rfl, x_ib hn ⟨rfl, x_ia hn ⟨szN 2, ?_⟩⟩⟩
  have e : (if (!decide (n = 0)) = true then (1 : Int) else 0) = if n = 0 then 0 else 1 := by
    by_cases h0 : n = 0
    · rw [if_pos h0, decide_eq_true h0]; rfl
    · rw [if_neg h0, decide_eq_false h0]; rfl
  refine (show (2 ≤ sizeLine ∧ (2 = 2 ∧ tf__law_same (fun _ => False) [.tup [.int (lowv n), .int (lowv n + if n = 0 then 0 else 1)], .tup [.int (lowv n), .int (lowv n + (if (!decide (n = 0)) = true then (1 : Int) else 0))]] _)) from ⟨szN 2, rfl, ?_⟩)
  rw [e]
  have z : Bd 2010 (if n = 0 then (0 : Int) else 1) := by split <;> exact Bd.mono (n := 1) (.lit (by decide)) (by decide)
  refine same_b (w := 9000) (k := 1) ((gb_tup (ds := [.int (lowv n), .int (lowv n + if n = 0 then 0 else 1)]) (n := 2) (w := 4000) (k := 0) ?_ (Nat.le_refl 2)).mono) h
  simp only [List.mem_cons, List.not_mem_nil, or_false, forall_eq_or_imp, forall_eq]
  exact ⟨gb_int ((lowv_bd hn).mono (by decide)), gb_int (((lowv_bd hn).add z).mono (by decide))⟩
end
end K08
set_option Elab.async false
set_option linter.all false
set_option maxHeartbeats 1000000
set_option maxRecDepth 100000
namespace K08
open PySem PySem.Spec L2 DL
variable {ξ : XT} {Q : D → Prop}
section
variable {De : DEnds} {ζ : XW} {U : TDS} {n m pa pb pd : Int}
theorem ml1 (p q : Pr) : (ml p q).1 = p.1 * q.1 + p.2 * q.2 := rfl
theorem ml2 (p q : Pr) : (ml p q).2 = p.1 * q.2 + p.2 * q.1 + p.2 * q.2 := rfl
theorem bd_ml {N M : Nat} {a b c e : Int} (ha : Bd N a) (hb : Bd N b) (hc : Bd M c) (he : Bd M e) : Bd (N + M + 2) (a * c + b * e) ∧ Bd (N + M + 2) (a * e + b * c + b * e) :=
  ⟨(bp ha hc hb he).mono (by omega), ((bp ha he hb hc).add ((hb.mul he).mono (by omega)) : Bd (N + M + 1 + 1) _)⟩
theorem pr7 (hn : n.natAbs ≤ 2000) (hm : m.natAbs ≤ 2000) (hp : Pp pa pb pd) {s10 : Slot} (h : U ζ De (EF n m pa pb pd s10)) : dSeq PR7 U ζ De (EF n m pa pb pd s10) := by
  have gn := gs_pw hn
  have gm := gs_pw hm
  refine ⟨rfl, x_times gn gm (by decide) ⟨rfl, x_times hp.gs gn (by decide) ⟨szN 2, ?_⟩⟩⟩
  refine ⟨szN 3, rfl, e_ltimes gn.ba gn.bb gn.bd (by decide) gm.ba gm.bb (by decide) (by decide) ⟨rfl, e_ltimes hp.ba hp.bb hp.bd hp.p gn.ba gn.bb (by decide) (by decide) ⟨szN 2, rfl, ?_⟩⟩⟩
  rw [Int.mul_one, Int.mul_one]
  obtain ⟨z1, z2⟩ := bd_ml gn.ba gn.bb gm.ba gm.bb
  obtain ⟨z3, z4⟩ := bd_ml hp.ba hp.bb gn.ba gn.bb
  refine same_b (w := 27000) (k := 2) ((gb_tup (ds := [lo _ _ _, lo _ _ _]) (n := 2) (w := 13000) (k := 1) ?_ (Nat.le_refl 2)).mono) h
  simp only [List.mem_cons, List.not_mem_nil, or_false, forall_eq_or_imp, forall_eq]
  exact ⟨gb_lo (z1.mono (by decide)) (z2.mono (by decide)) (gn.bd.mono (by decide)) (by decide), gb_lo (z3.mono (by decide)) (z4.mono (by decide)) (hp.bd.mono (by decide)) hp.p⟩
theorem pr8 (hn : n.natAbs ≤ 2000) (hm : m.natAbs ≤ 2000) {s10 : Slot} (h : U ζ De (EF n m pa pb pd s10)) : dSeq PR8 U ζ De (EF n m pa pb pd s10) := by
  have gn := gs_pw hn
  have gm := gs_pw hm
  unfold PR8
  refine (ifd (fun h0 => ?_) (fun h0 => h) : if decide ((if n + m < 0 then -(n + m) else n + m) ≤ 2000) = true then _ else _)
  have hs : (n + m).natAbs ≤ 2000 := by split at h0 <;> omega
  refine ⟨rfl, x_times gm gn (by decide) ⟨rfl, x_power hs ⟨rfl, ?_⟩⟩⟩
  rw [Int.mul_one, lo_1, Int.add_comm n m, pw_add m n]
  exact same_b (gb_3 ((bd_ml gm.ba gm.bb gn.ba gn.bb).1.mono (by decide)) ((bd_ml gm.ba gm.bb gn.ba gn.bb).2.mono (by decide)) (Bd.mono (n := 1) (.lit (by decide)) (by decide))) h
theorem pw_ne (n : Int) : ¬ ((pw n).1 = 0 ∧ (pw n).2 = 0) := fun ⟨h1, h2⟩ => by
  have := nrm_pw n
  unfold nrm at this
  rw [h1, h2] at this
  rcases sg_or n with e | e <;> rw [e] at this <;> cases this
theorem nm_pw (n : Int) : nm (pw n).1 (pw n).2 = sg n := nrm_pw n
theorem pr9 (hn : n.natAbs ≤ 2000) (hp : Pp pa pb pd) {s10 : Slot} (h : De.rt (.bl true)) : PR9 ζ De (EF n m pa pb pd s10) := by
  have gn := gs_pw hn
  have g1 : Gs 1 1 0 1 := ⟨.lit (by decide), .lit (by decide), .lit (by decide), by decide⟩
  have c := cj_pw' n
  refine ⟨szN 3, rfl, x_quotient (m := 2001) g1 gn (by decide) (pw_ne n) (x := (pw (-n)).1) (y := (pw (-n)).2) (z := 1) (by decide) ?_ ?_⟩
  · rw [nm_pw]
    constructor
    · grind
    · grind
  rw [lo_1]
  refine ⟨rfl, x_times hp.gs gn (by decide) ?_⟩
  have p1 : 1 ≤ pd * 1 := by have := hp.p; omega
  obtain ⟨x, y, z, l⟩ := lo_is (a := pa * (pw n).1 + pb * (pw n).2) (b := pa * (pw n).2 + pb * (pw n).1 + pb * (pw n).2) p1
  rw [l.eq]
  obtain ⟨z3, z4⟩ := bd_ml hp.ba hp.bb gn.ba gn.bb
  have bz := l.bz 101 (hp.bd.mul (j := 1) (m := 1) (.lit (by decide)))
  refine ⟨rfl, x_quotient (n := 2103) ⟨l.bx _ z3, l.by_ _ z4, bz.mono (by decide), l.nf.p⟩ gn (by decide) (pw_ne n) (x := pa) (y := pb) (z := pd) hp.p ?_ ?_⟩
  · rw [nm_pw, ← nrm_pw n]
    obtain ⟨r1, r2⟩ := l.r
    unfold nrm
    constructor
    · grind
    · grind
  have hneg : (-n).natAbs ≤ 2000 := by omega
  refine ⟨szN 2, rfl, e_lpower hneg ⟨szN 1, szN 3, rfl, e_least hp.ba hp.bb hp.bd hp.p (by decide) ⟨szN 2, rfl, ?_⟩⟩⟩
  refine same_b (ds := [PT (-n), lo pa pb pd]) (w := 27000) (k := 2) ((gb_tup (ds := [PT (-n), lo pa pb pd]) (n := 2) (w := 13000) (k := 1) ?_ (Nat.le_refl 2)).mono) h
  simp only [List.mem_cons, List.not_mem_nil, or_false, forall_eq_or_imp, forall_eq]
  exact ⟨gb_pw hneg, gb_lo (hp.ba.mono (by decide)) (hp.bb.mono (by decide)) (hp.bd.mono (by decide)) hp.p⟩
end
theorem e_powers {n m : Int} (hn : n.natAbs ≤ 2000) (hm : m.natAbs ≤ 2000) (q : Q (.bl true)) : tf__law_are_powers_right ξ [.deck, .int n, .int m] Q := by
  show T__law_are_powers_right (fun _ _ => False) { nx := fun _ => Q .non, rt := Q } [.d .deck, .d (.int n), .d (.int m), .un, .un, .un, .un, .un, .un, .un, .un]
  rw [PR_eq]
  refine pr1 hn fun pa pb pd hp => ?_
  refine pr2 hn hm ?_
  refine pr3 hn hm ?_
  refine pr4 hn ?_
  refine pr5 hn ?_
  refine pr6 hn ?_
  refine pr7 hn hm hp ?_
  refine pr8 hn hm ?_
  exact pr9 hn hp q
end K08
set_option Elab.async false
set_option linter.all false
set_option maxHeartbeats 1000000
set_option maxRecDepth 100000
namespace K08
open PySem PySem.Spec L2 DL
variable {ξ : XT} {Q : D → Prop}
/-! ### values in the place of an exponent -/
theorem gd_dct1 {i : Int} (h : Bd 250 i) : Gd 600 2 (.dct [.inl i] [.int i]) := by
  have g := gd_int h
  have e : (toP (.dct [.inl i] [.int i])).shown = dictText [(toP (.int i)).shown ++ ": " ++ (toP (.int i)).shown] := by
    simp only [toP, toPk, PyData.shown, PyData.shownKv]
  refine ⟨rfl, ?_, ?_, ?_, ?_, fun _ h => by cases h⟩
  · have s := g.sh
    simp only [toP, PyData.showable] at s
    simp only [toP, toPk, PyData.showable, PyData.showableKv, s, Bool.and_self]
  · simp only [toP, toPk, PyData.depth, PyData.depthKv]
    omega
  · rw [e]
    have q := dictText_len_le [(toP (.int i)).shown ++ ": " ++ (toP (.int i)).shown]
    have l := g.ln
    simp only [List.map_cons, List.map_nil, List.sum_cons, List.sum_nil, List.length_cons, List.length_nil, strLen_append] at q
    have : (": " : Str).length = 2 := by decide
    omega
  · rw [e]
    refine cs_dict ?_
    intro t m
    simp only [List.mem_cons, List.not_mem_nil, or_false] at m
    subst m
    exact (g.cs.app (cs_of _)).app g.cs
theorem e_exponent (h : ∀ n : Int, n.natAbs ≤ 2000 → Q (.int n)) : tf__law_exponent ξ [.deck] Q := by
  refine ⟨rfl, e_draw (by decide) (by decide) fun w w0 w1 => ⟨rfl, e_draw (by decide) (by decide) fun f f0 f1 => ⟨Bd.cmul (n := 2) Bd.lit (bd_small (n := 2) (m := 2) f0 f1), ?_⟩⟩⟩
  have hf : 1 - 2 * f = 1 ∨ 1 - 2 * f = -1 := by omega
  have bf : Bd 2 (1 - 2 * f) := by rcases hf with e | e <;> rw [e] <;> exact Bd.lit
  have fin : ∀ r : Int, 0 ≤ r → r ≤ 2000 → CMulW (1 - 2 * f) r ∧ Q (.int ((1 - 2 * f) * r)) := fun r r0 r1 => by
    refine ⟨bf.cmul (m := 12) (by unfold Bd; omega), h _ ?_⟩
    rcases hf with e | e <;> rw [e] <;> omega
  refine ifd (fun _ => ?_) (fun _ => ?_)
  · exact ⟨rfl, e_draw (by decide) (by decide) fun r r0 r1 => fin r r0 (by omega)⟩
  · refine ifd (fun _ => ?_) (fun _ => ?_)
    · exact ⟨rfl, e_draw (by decide) (by decide) fun r r0 r1 => fin (2000 - r) (by omega) (by omega)⟩
    · exact ⟨rfl, e_draw (by decide) (by decide) fun r r0 r1 => fin r r0 (by omega)⟩
def N100 : Int := 10 ^ (100 : Int).toNat - 1
def C1 : List D := [.int 2001, .int (-2001), .int 2000, .int (-2000), .bl true, .bl false, .non, .str "2", .str "", .tup [], .dct [] [], T3 0 1 1, .int N100, .int (-N100), .lst [], .str "power\n~"]
theorem okC1 : C1.all okC = true := by decide +kernel
theorem c_gd {d : D} (h : d ∈ C1) : Gd 1100 3 d := (okC_vd (List.all_eq_true.mp okC1 d h)).mono.g
theorem N1 : (2 : Int) ≤ 100 ∧ (100 : Int) ≤ 4300 := by decide
theorem e_odd {n : Int} (hn : n.natAbs ≤ 2000) (h : ∀ d, Gd 1100 3 d → Q d) : tf__law_odd ξ [.deck, .int n] Q := by
  have b : Bd 12 n := by unfold Bd; omega
  have l : n.natAbs.log2 < 1920 := PySem.Flt.log2_lt_of (by decide) (b.mono (m := 1920) (by decide))
  refine ⟨szN 0, szN 1, szN 1, szN 3, szN 3, l, szN 17, N1, N1, szN 0, szN 2, szN 1, szN 2, szN 10, szN 27, rfl, ?_⟩
  refine e_pick (by show 0 < 27; decide) (by show 27 < 1000000000; decide) fun d m => h d ?_
  have gi : ∀ {i : Int}, Bd 250 i → Gd 100 0 (.int i) := gd_int
  have g := gi (b.mono (by decide))
  have t1 : Gd 110 1 (.tup [.int n]) := (gd_tup (n := 1) (ds := [.int n]) (by simpa using g) (Nat.le_refl 1)).mono (by decide) (by decide)
  have two : ∀ {x y : D} {w k : Nat}, Gd w k x → Gd w k y → Gd ((w + 2) * 2 + 4) (k + 1) (.tup [x, y]) := fun {x y w k} hx hy => gd_tup (n := 2) (ds := [x, y]) (by
    simp only [List.mem_cons, List.not_mem_nil, or_false, forall_eq_or_imp, forall_eq]
    exact ⟨hx, hy⟩) (Nat.le_refl 2)
  rcases List.mem_append.mp m with m | m
  · simp only [List.mem_cons, List.not_mem_nil, or_false] at m
    rcases m with rfl | rfl | rfl | rfl | rfl | rfl | rfl | rfl | rfl | rfl | rfl | rfl | rfl | rfl | rfl | rfl | rfl
    · exact c_gd (by simp [C1])
    · exact c_gd (by simp [C1])
    · exact c_gd (by simp [C1])
    · exact c_gd (by simp [C1])
    · exact c_gd (by simp [C1])
    · exact c_gd (by simp [C1])
    · exact c_gd (by simp [C1])
    · exact c_gd (by simp [C1])
    · exact c_gd (by simp [C1])
    · exact c_gd (by simp [C1])
    · exact t1.mono (by decide) (by decide)
    · exact (gd_lst (n := 1) (ds := [.int n]) (by simpa using g) (Nat.le_refl 1)).mono (by decide) (by decide)
    · exact (gd_dct1 (b.mono (by decide))).mono (by decide) (by decide)
    · exact c_gd (by simp [C1])
    · exact c_gd (by simp [C1])
    · exact (gd_tup (n := 3) (ds := [.int n, .int 0, .int 1]) (by
        simp only [List.mem_cons, List.not_mem_nil, or_false, forall_eq_or_imp, forall_eq]
        exact ⟨g, gi (Bd.mono (n := 1) (.lit (by decide)) (by decide)), gi (Bd.mono (n := 1) (.lit (by decide)) (by decide))⟩) (Nat.le_refl 3)).mono (by decide) (by decide)
    · have h10 : n.natAbs < 10 ^ 4 := by omega
      have l := int_text_length_le10 (k := 4) (by decide) h10
      exact (gd_str (n := 5) (by rw [PySem.ofString_length]; omega) (cs_of _)).mono (by decide) (by decide)
  · simp only [List.mem_cons, List.not_mem_nil, or_false] at m
    rcases m with rfl | rfl | rfl | rfl | rfl | rfl | rfl | rfl | rfl | rfl
    · exact c_gd (d := .int N100) (by simp [C1])
    · exact c_gd (d := .int (-N100)) (by simp [C1])
    · exact (gi (Bd.mono (n := 14) (by unfold Bd; omega) (by decide))).mono (by decide) (by decide)
    · exact (gi (i := n - 4001) (Bd.mono (n := 14) (by unfold Bd; omega) (by decide))).mono (by decide) (by decide)
    · exact c_gd (by simp [C1])
    · exact g.mono (by decide) (by decide)
    · exact (gi (b.neg.mono (by decide))).mono (by decide) (by decide)
    · exact (two gd_non g).mono (by decide) (by decide)
    · exact (two t1 (g.mono (by decide) (by decide))).mono (by decide) (by decide)
    · exact c_gd (by simp [C1])
/-! ### refused or not -/
def inr (d : D) : Bool := match d with
  | .int i => decide (i ≥ -2000) && decide (i ≤ 2000)
  | _ => false
abbrev dueP (d : D) : D := if inr d = true then .non else .tup [.str "power", d]
theorem e_isint {d : D} (h : typed d = true) (q : Q (.bl (inr d))) : tf__law_is_integer ξ [d, .int (-2000), .int 2000] Q := by
  cases d with
  | int i =>
    refine ⟨rfl, rfl, ?_⟩
    have q : Q (.bl (decide (i ≥ -2000) && decide (i ≤ 2000))) := q
    show (if decide (i ≥ -2000) = true then Q (.bl (decide (i ≤ 2000))) else Q (.bl false))
    cases e : decide (i ≥ -2000) with
    | false => rw [e] at q; exact q
    | true => rw [e] at q; exact q
  | bl b => exact ⟨rfl, rfl, q⟩
  | deck => cases h
  | ty n => cases h
  | _ => exact ⟨rfl, q⟩
theorem x_power_bad {d : D} (h : typed d = true) (n : inr d = false) (q : ξ ⟨"BadPower", [("thing", d)]⟩) : tf_power ξ [d] Q := by
  show T_power (fun x _ => ξ x) { nx := fun _ => Q .non, rt := Q } [.d d, .un, .un, .un]
  unfold T_power
  refine ⟨rfl, e_ipi h ?_⟩
  cases e : isI d with
  | false => exact q
  | true =>
    obtain ⟨i, rfl⟩ := isI_of e
    have n : (decide (i ≥ -2000) && decide (i ≤ 2000)) = false := n
    have : ¬ (i ≥ -2000 ∧ i ≤ 2000) := fun z => by
      rw [decide_eq_true z.1, decide_eq_true z.2] at n
      cases n
    show (if decide ((if i < 0 then -i else i) > 2000) = true then _ else _)
    rw [decide_eq_true (by split <;> omega : (if i < 0 then -i else i) > 2000)]
    exact q
theorem m_bp : mm_BadPower "BadPower" = some true := by decide +kernel
theorem typ_tup {d : D} (h : typed d = true) : True := trivial
theorem e_refused {d : D} {b : Bool} (h : typed d = true) (q : Q (dueP d)) : tf__law_refused ξ [d, .bl b] Q := by
  show T__law_refused (fun _ _ => False) { nx := fun _ => Q .non, rt := Q } [.d d, .d (.bl b), .un, .un, .un]
  unfold T__law_refused
  have raise : inr d = false → wDs (fun _ _ => False) { nx := fun env => (dRet (dIf (dTest (dUn (gIs .tuple) (dVar 2))) (dC .non) (dTup (dCons (dC (.str "told")) (dCons (dVar 2) dNil))))) (fun _ _ => False) { nx := fun _ => Q .non, rt := Q } env, rt := Q } [⟨mm_BadPower, some 3, fun a y => (dSeq (dAsg (dOr (dIsX a y 3 is_BadNumber) (dOr (dIsX a y 3 is_BadCount) (dNot (dIsX a y 3 is_FloorError)))) (dgName 4)) (dRet (dIf (dTruI (dVar 4)) (dTup (dCons (dC (.str "both")) (dCons (dC .non) dNil))) (dTup (dCons (dC (.str "power")) (dCons (dXf a y 3 "thing") dNil))))))⟩,
      ⟨mm_FloorError, none, fun a y => (dRet (dTup (dCons (dC (.str "other")) (dCons (dC .non) dNil))))⟩] ⟨"BadPower", [("thing", d)]⟩ [.d d, .d (.bl b), .un, .un, .un] := fun n => by
    unfold dueP at q
    rw [n, if_neg (by decide)] at q
    unfold wDs
    dsimp only
    rw [m_bp]
    intro a
    exact ⟨rfl, rfl, rfl, rfl, szN 2, q⟩
  have good : inr d = true → ∃ i : Int, d = .int i ∧ i.natAbs ≤ 2000 := fun n => by
    cases d <;> try cases n
    rename_i i
    have n : (decide (i ≥ -2000) && decide (i ≤ 2000)) = true := n
    simp only [Bool.and_eq_true, decide_eq_true_eq] at n
    exact ⟨i, rfl, by omega⟩
  cases n : inr d with
  | true =>
    obtain ⟨i, rfl, hi⟩ := good n
    unfold dueP at q
    rw [n, if_pos rfl] at q
    cases b
    · exact ⟨rfl, x_power hi ⟨rfl, q⟩⟩
    · exact ⟨⟨rfl, rfl⟩, x_power hi ⟨rfl, q⟩⟩
  | false =>
    cases b
    · exact ⟨rfl, x_power_bad h n (raise n)⟩
    · exact ⟨⟨rfl, rfl⟩, x_power_bad h n (raise n)⟩
theorem gd_due {d : D} (g : Gd 1100 3 d) : Gd 3000 4 (dueP d) := by
  unfold dueP
  split
  · exact gd_non.mono (by decide) (by decide)
  · exact (gd_tup (n := 2) (w := 1100) (k := 3) (ds := [.str "power", d]) (by
      simp only [List.mem_cons, List.not_mem_nil, or_false, forall_eq_or_imp, forall_eq]
      exact ⟨(gd_str (n := 10) (by decide) (cs_of _)).mono (by decide) (by decide), g⟩) (Nat.le_refl 2)).mono (by decide) (by decide)
end K08
set_option Elab.async false
set_option linter.all false
set_option maxHeartbeats 1000000
set_option maxRecDepth 100000
namespace K08
open PySem PySem.Spec L2 DL
variable {ξ : XT} {Q : D → Prop}
/-! ### five keys by their rule -/
def ru (p q : Pr) : Pr := (-q.2 - p.1, -q.1 - q.2 - p.2)
def five (p q : Pr) : List Pr := [p, q, ru p q, ru q (ru p q), ru (ru p q) (ru q (ru p q))]
theorem ru3 (p q : Pr) : ru (ru q (ru p q)) (ru (ru p q) (ru q (ru p q))) = p := by
  apply pr_ext <;> simp only [ru] <;> omega
theorem ru4 (p q : Pr) : ru (ru (ru p q) (ru q (ru p q))) p = q := by
  apply pr_ext <;> simp only [ru] <;> omega
theorem five_ml (f p q : Pr) : five (ml f p) (ml f q) = (five p q).map (ml f) := by
  have r : ∀ a b : Pr, ru (ml f a) (ml f b) = ml f (ru a b) := fun a b => by
    apply pr_ext <;> simp only [ru, ml] <;> grind
  simp only [five, List.map_cons, List.map_nil, r]
structure Bp (N : Nat) (p : Pr) : Prop where
  h1 : Bd N p.1
  h2 : Bd N p.2
theorem Bp.mono {N M : Nat} {p : Pr} (h : Bp N p) (l : N ≤ M := by omega) : Bp M p := ⟨h.h1.mono l, h.h2.mono l⟩
theorem Bp.ru {N : Nat} {p q : Pr} (h : Bp N p) (k : Bp N q) : Bp (N + 2) (ru p q) :=
  ⟨(k.h2.neg.sub h.h1).mono (by omega), (k.h1.neg.sub k.h2).sub (h.h2.mono (by omega))⟩
theorem bp_five {N : Nat} {p q : Pr} (h : Bp N p) (k : Bp N q) : ∀ x ∈ five p q, Bp (N + 6) x := by
  have a := h.ru k
  have b := (k.mono (M := N + 2)).ru a
  have c := (a.mono (M := N + 4)).ru b
  simp only [five, List.mem_cons, List.not_mem_nil, or_false, forall_eq_or_imp, forall_eq]
  exact ⟨h.mono, k.mono, a.mono, b.mono, c.mono⟩
/-! ### what a comprehension with a test makes -/
theorem lc_filter {j : Nat} {tt : TDT} {te : TDE} {env : SE} {f : D → Bool} {g : D → D} : ∀ {ds : List D} {Q : List D → Prop}, (∀ d ∈ ds, ∀ K : Bool → Prop, K (f d) → tt (fun _ _ => False) (env.set j (.d d)) K) → (∀ d ∈ ds, ∀ K : D → Prop, K (g d) → te (fun _ _ => False) (env.set j (.d d)) K) → Q ((ds.filter f).map g) → lcD (dgName j) tt te env ds Q
  | [], _, _, _, q => q
  | d :: ds, Q, h, k, q => by
    refine h d List.mem_cons_self _ ?_
    cases e : f d with
    | true =>
      rw [List.filter_cons_of_pos e] at q
      refine k d List.mem_cons_self _ ?_
      exact lc_filter (Q := fun ys => Q (g d :: ys)) (fun x m => h x (List.mem_cons_of_mem _ m)) (fun x m => k x (List.mem_cons_of_mem _ m)) q
    | false =>
      rw [List.filter_cons_of_neg (by rw [e]; decide)] at q
      exact lc_filter (fun x m => h x (List.mem_cons_of_mem _ m)) (fun x m => k x (List.mem_cons_of_mem _ m)) q
theorem i5 : intsD 0 (5 : Int).toNat = [.int 0, .int 1, .int 2, .int 3, .int 4] := rfl
theorem c5 : (0 : Int) ≤ 5 ∧ (5 : Int) ≤ sizeLine := ⟨by decide, by rw [sizeLine_eq]; decide⟩
/-! ### directions with a whole key -/
def hw (d : Int) (p : Pr) : Bool := decide (p.1 % d = 0) && decide (p.2 % d = 0)
def hwAt (d : Int) (ks : List Pr) (x : D) : Bool := match x with
  | .int i => (match ks[i.toNat]? with
    | some p => hw d p
    | none => false)
  | _ => false
def I5 : List D := [.int 0, .int 1, .int 2, .int 3, .int 4]
def wh (d : Int) (ks : List Pr) : List D := I5.filter (hwAt d ks)
theorem five5 {P : D → Prop} (h0 : P (.int 0)) (h1 : P (.int 1)) (h2 : P (.int 2)) (h3 : P (.int 3)) (h4 : P (.int 4)) : ∀ d ∈ I5, P d := by
  simp only [I5, List.mem_cons, List.not_mem_nil, or_false, forall_eq_or_imp, forall_eq]
  exact ⟨h0, h1, h2, h3, h4⟩
theorem wh_ml {d : Int} {f f' p q : Pr} (e : ml f' f = (1, 0)) : wh d (five (ml f p) (ml f q)) = wh d (five p q) := by
  have key : ∀ (f : Pr) {a : Pr}, hw d a = true → hw d (ml f a) = true := fun f {a} h => by
    unfold hw at *
    simp only [Bool.and_eq_true, decide_eq_true_eq] at *
    obtain ⟨x, hx⟩ := Int.dvd_of_emod_eq_zero h.1
    obtain ⟨y, hy⟩ := Int.dvd_of_emod_eq_zero h.2
    constructor
    · exact Int.emod_eq_zero_of_dvd ⟨f.1 * x + f.2 * y, by simp only [ml]; rw [hx, hy]; grind⟩
    · exact Int.emod_eq_zero_of_dvd ⟨f.1 * y + f.2 * x + f.2 * y, by simp only [ml]; rw [hx, hy]; grind⟩
  have both : ∀ a : Pr, hw d (ml f a) = hw d a := fun a => by
    cases h : hw d a with
    | true => exact key f h
    | false =>
      cases k : hw d (ml f a) with
      | false => rfl
      | true =>
        have := key f' k
        rw [← ml_assoc, e, ml_comm, ml_one, h] at this
        exact this.symm
  unfold wh
  refine List.filter_congr ?_
  rw [five_ml]
  refine five5 ?_ ?_ ?_ ?_ ?_ <;> exact both _
/-! ### sides -/
abbrev R5 (a b c d e : Int) : D := .tup [.int a, .int b, .int c, .int d, .int e]
abbrev Z5 : D := R5 0 0 0 0 0
def L10 : List D := [R5 1 (-1) 1 1 (-1), R5 (-1) 1 (-1) (-1) 1, R5 (-1) 1 (-1) 1 1, R5 1 (-1) 1 (-1) (-1), R5 1 (-1) 1 (-1) 1, R5 (-1) 1 (-1) 1 (-1), R5 1 1 (-1) 1 (-1), R5 (-1) (-1) 1 (-1) 1, R5 (-1) 1 1 (-1) 1, R5 1 (-1) (-1) 1 (-1)]
def oneS : Int → List D
  | 0 => [R5 (-1) 0 0 0 0, R5 1 0 0 0 0]
  | 1 => [R5 0 (-1) 0 0 0, R5 0 1 0 0 0]
  | 2 => [R5 0 0 (-1) 0 0, R5 0 0 1 0 0]
  | 3 => [R5 0 0 0 (-1) 0, R5 0 0 0 1 0]
  | _ => [R5 0 0 0 0 (-1), R5 0 0 0 0 1]
def sidesOf : List D → List D
  | [] => [Z5]
  | [.int r] => oneS r
  | _ => sortD L10
theorem mem_sort {d : D} : d ∈ sortD L10 ↔ d ∈ L10 := List.mem_mergeSort
def enc5 (t : Int × Int × Int × Int × Int) : PyData := .tuple [.int t.1, .int t.2.1, .int t.2.2.1, .int t.2.2.2.1, .int t.2.2.2.2]
theorem ok10 : SortOk L10 := by
  have e : L10.map toP = [(1, -1, 1, 1, -1), (-1, 1, -1, -1, 1), (-1, 1, -1, 1, 1), (1, -1, 1, -1, -1), (1, -1, 1, -1, 1), (-1, 1, -1, 1, -1), (1, 1, -1, 1, -1), (-1, -1, 1, -1, 1), (-1, 1, 1, -1, 1), (1, -1, -1, 1, -1)].map enc5 := rfl
  refine ⟨rfl, ?_, ?_, szN 10, ?_⟩
  · rw [e]
    exact W.AllAlike.of fun _ _ => by simp [W.alike, W.alikeAll, enc5]
  · rw [e]
    exact W.Sortable.tuples fun _ => ⟨_, _, rfl⟩
  · simp only [L10, List.mem_cons, List.not_mem_nil, or_false, forall_eq_or_imp, forall_eq]
    simp [toP, toPs, PyData.depth, PyData.depthAll]
end K08
set_option Elab.async false
set_option linter.all false
set_option maxHeartbeats 1000000
set_option maxRecDepth 100000
namespace K08
open PySem PySem.Spec L2 DL
variable {ξ : XT} {Q : D → Prop}
theorem szL (n : Nat) (h : n < 1000 := by decide) : n < sizeLine := Nat.lt_of_lt_of_le h (by rw [sizeLine_eq]; decide)
theorem for_cons {ζ : XW} {De : DEnds} {B : TDS} {x : D} {xs : List D} {env : SE} {i : Nat} (h : B ζ { De with nx := forD (dgName i) B ζ De xs, ct := forD (dgName i) B ζ De xs, bk := De.nx } (env.set i (.d x))) : forD (dgName i) B ζ De (x :: xs) env := h
/-! ### the law's keys -/
abbrev tp (p : Pr) : D := .tup [.int p.1, .int p.2]
abbrev LKB : TDS := (dSeq (dAsg (dTup (dCons (dOwnIx 3 (dUn gNeg (dC (.int 2)))) (dCons (dOwnIx 3 (dUn gNeg (dC (.int 1)))) dNil))) (dgTup 2 (dgCons (dgTup 2 (dgCons (dgName 5) (dgCons (dgName 6) dgNil))) (dgCons (dgTup 2 (dgCons (dgName 7) (dgCons (dgName 8) dgNil))) dgNil))))
    (dApp 3 (dTup (dCons (dBin gSub (dUn gNeg (dVar 8)) (dVar 5)) (dCons (dBin gSub (dBin gSub (dUn gNeg (dVar 7)) (dVar 8)) (dVar 6)) dNil)))))
theorem lk_go {ζ : XW} {De : DEnds} {s0 s1 s2 s4 s5 s6 s7 s8 s9 : DL.Slot} {l : List D} {a b : Pr} {n : Nat} (h2 : atI l (-2) = some (tp a)) (h1 : atI l (-1) = some (tp b)) (hl : l.length = n) (hn : n < 1000) (k : ∀ s5 s6 s7 s8, De.nx [s0, s1, s2, .own (l ++ [tp (ru a b)]), s4, s5, s6, s7, s8, s9]) : LKB ζ De [s0, s1, s2, .own l, s4, s5, s6, s7, s8, s9] := by
  show (match atI l (-2) with
    | some d => _
    | none => False)
  rw [h2]
  show (match atI l (-1) with
    | some d => _
    | none => False)
  rw [h1]
  exact ⟨szN 2, rfl, rfl, rfl, szN 2, by rw [hl]; exact szL n hn, k _ _ _ _⟩
theorem e_lkeys {at_ : Int} {p q : Pr} (h0 : 0 ≤ at_) (h5 : at_ < 5) (h : ∀ a b : Pr, a ∈ five p q → b ∈ five p q → Q (.lst ((five a b).map tp))) : tf__law_keys ξ [tp p, tp q, .int at_] Q := by
  have e3 := ru3 p q
  have e4 := ru4 p q
  have m0 : p ∈ five p q := by simp [five]
  have m1 : q ∈ five p q := by simp [five]
  have m2 : ru p q ∈ five p q := by simp [five]
  have m3 : ru q (ru p q) ∈ five p q := by simp [five]
  have m4 : ru (ru p q) (ru q (ru p q)) ∈ five p q := by simp [five]
  have r0 := h _ _ m0 m1
  have r1 := h _ _ m4 m0
  have r2 := h _ _ m3 m4
  have r3 := h _ _ m2 m3
  have r4 := h _ _ m1 m2
  simp only [five, e3, e4] at r0 r1 r2 r3 r4
  generalize hk4 : ru (ru p q) (ru q (ru p q)) = k4 at *
  have h05 : (0 : Int) < 5 := by decide
  have last : ∀ k2 k3 : Pr, ru p q = k2 → ru q k2 = k3 → ∀ s4 s5 s6 s7 s8, (dFreeze 3 (dRet (dLcR (dCons (dC (.int 5)) dNil) 9 dYes (dBin gIx (dVar 3) (dBin gMod (dCB gInt (dCons (dBin gSub (dVar 9) (dVar 2)) dNil)) (dC (.int 5))))))) (fun _ _ => False) { nx := fun _ => Q .non, rt := Q } [.d (tp p), .d (tp q), .d (.int at_), .own [tp p, tp q, tp k2, tp k3, tp k4], s4, s5, s6, s7, s8, .un] := by
    rintro k2 k3 rfl rfl s4 s5 s6 s7 s8
    have : at_ = 0 ∨ at_ = 1 ∨ at_ = 2 ∨ at_ = 3 ∨ at_ = 4 := by omega
    rcases this with rfl | rfl | rfl | rfl | rfl
    · exact ⟨c5, h05, h05, h05, h05, h05, r0⟩
    · exact ⟨c5, h05, h05, h05, h05, h05, r1⟩
    · exact ⟨c5, h05, h05, h05, h05, h05, r2⟩
    · exact ⟨c5, h05, h05, h05, h05, h05, r3⟩
    · exact ⟨c5, h05, h05, h05, h05, h05, r4⟩
  show T__law_keys (fun _ _ => False) { nx := fun _ => Q .non, rt := Q } [.d (tp p), .d (tp q), .d (.int at_), .un, .un, .un, .un, .un, .un, .un]
  unfold T__law_keys
  refine ⟨szN 2, ⟨by decide, by decide⟩, ?_⟩
  show forD (dgName 4) LKB _ _ [.int 0, .int 1, .int 2] _
  refine for_cons (lk_go (a := p) (b := q) (n := 2) (l := [tp p, tp q]) rfl rfl rfl (by decide) fun _ _ _ _ => ?_)
  dsimp only
  refine for_cons (lk_go (a := q) (b := ru p q) (n := 3) (l := [tp p, tp q] ++ [tp (ru p q)]) rfl rfl rfl (by decide) fun _ _ _ _ => ?_)
  dsimp only
  refine for_cons (lk_go (a := ru p q) (b := ru q (ru p q)) (l := [tp p, tp q] ++ [tp (ru p q)] ++ [tp (ru q (ru p q))]) (n := 4) rfl rfl rfl (by decide) fun _ _ _ _ => ?_)
  rw [hk4]
  exact last _ _ rfl rfl _ _ _ _ _
/-! ### sides, by the law -/
abbrev SBB : TDS := (dSeq (dAsg (dLcR (dCons (dC (.int 5)) dNil) 2 dYes (dBin gIx (dTup (dCons (dC (.int 1)) (dCons (dUn gNeg (dC (.int 1))) (dCons (dC (.int 1)) (dCons (dC (.int 1)) (dCons (dUn gNeg (dC (.int 1))) dNil)))))) (dBin gMod (dCB gInt (dCons (dBin gSub (dVar 2) (dVar 5)) dNil)) (dC (.int 5))))) (dgName 6))
    (dAsg (dBin gAddA (dVar 4) (dLst (dCons (dCB gTuple (dCons (dVar 6) dNil)) (dCons (dCB gTuple (dCons (dLcV 6 3 dYes (dUn gNeg (dVar 3))) dNil)) dNil)))) (dgName 4)))
theorem h05 : (0 : Int) < 5 := by decide
theorem SBa {ζ : XW} {De : DEnds} {U : TDS} {q a b c d e : Int} {W l : D} {s1 s2 s3 s6 : DL.Slot} (h0 : ∀ P : D → Prop, P (.int a) → gIx (R5 1 (-1) 1 1 (-1)) (.int ((0 - q) % 5)) P) (h1 : ∀ P : D → Prop, P (.int b) → gIx (R5 1 (-1) 1 1 (-1)) (.int ((1 - q) % 5)) P) (h2 : ∀ P : D → Prop, P (.int c) → gIx (R5 1 (-1) 1 1 (-1)) (.int ((2 - q) % 5)) P) (h3 : ∀ P : D → Prop, P (.int d) → gIx (R5 1 (-1) 1 1 (-1)) (.int ((3 - q) % 5)) P) (h4 : ∀ P : D → Prop, P (.int e) → gIx (R5 1 (-1) 1 1 (-1)) (.int ((4 - q) % 5)) P)
    (k : U ζ De [.d W, s1, s2, s3, .d l, .d (.int q), .d (.lst [.int a, .int b, .int c, .int d, .int e])]) : dSeq (dAsg (dLcR (dCons (dC (.int 5)) dNil) 2 dYes (dBin gIx (dTup (dCons (dC (.int 1)) (dCons (dUn gNeg (dC (.int 1))) (dCons (dC (.int 1)) (dCons (dC (.int 1)) (dCons (dUn gNeg (dC (.int 1))) dNil)))))) (dBin gMod (dCB gInt (dCons (dBin gSub (dVar 2) (dVar 5)) dNil)) (dC (.int 5))))) (dgName 6)) U ζ De [.d W, s1, s2, s3, .d l, .d (.int q), s6] :=
  ⟨c5, szN 5, h05, h0 _ ⟨szN 5, h05, h1 _ ⟨szN 5, h05, h2 _ ⟨szN 5, h05, h3 _ ⟨szN 5, h05, h4 _ k⟩⟩⟩⟩⟩
theorem SBb {ζ : XW} {De : DEnds} {q a b c d e : Int} {W : D} {l : List D} {n : Nat} {s1 s2 s3 : DL.Slot} (hl : l.length = n) (hn : n + 2 ≤ 1000) (k : De.nx [.d W, s1, s2, s3, .d (.lst (l ++ [R5 a b c d e, R5 (-a) (-b) (-c) (-d) (-e)])), .d (.int q), .d (.lst [.int a, .int b, .int c, .int d, .int e])]) : (dAsg (dBin gAddA (dVar 4) (dLst (dCons (dCB gTuple (dCons (dVar 6) dNil)) (dCons (dCB gTuple (dCons (dLcV 6 3 dYes (dUn gNeg (dVar 3))) dNil)) dNil)))) (dgName 4)) ζ De [.d W, s1, s2, s3, .d (.lst l), .d (.int q), .d (.lst [.int a, .int b, .int c, .int d, .int e])] :=
  ⟨szN 5, szN 2, by rw [hl]; exact szN _ hn, k⟩
theorem SB0 {ζ : XW} {De : DEnds} {W : D} {l : List D} {s1 s2 s3 s6 : DL.Slot} (n : Nat) (hl : l.length = n) (hn : n + 2 ≤ 1000) (k : ∀ s5 s6, De.nx [.d W, s1, s2, s3, .d (.lst (l ++ [R5 1 (-1) 1 1 (-1), R5 (-1) 1 (-1) (-1) 1])), s5, s6]) : SBB ζ De [.d W, s1, s2, s3, .d (.lst l), .d (.int 0), s6] :=
  SBa (a := 1) (b := -1) (c := 1) (d := 1) (e := -1) (fun _ h => h) (fun _ h => h) (fun _ h => h) (fun _ h => h) (fun _ h => h) (SBb hl hn (k _ _))
theorem SB1 {ζ : XW} {De : DEnds} {W : D} {l : List D} {s1 s2 s3 s6 : DL.Slot} (n : Nat) (hl : l.length = n) (hn : n + 2 ≤ 1000) (k : ∀ s5 s6, De.nx [.d W, s1, s2, s3, .d (.lst (l ++ [R5 (-1) 1 (-1) 1 1, R5 1 (-1) 1 (-1) (-1)])), s5, s6]) : SBB ζ De [.d W, s1, s2, s3, .d (.lst l), .d (.int 1), s6] :=
  SBa (a := -1) (b := 1) (c := -1) (d := 1) (e := 1) (fun _ h => h) (fun _ h => h) (fun _ h => h) (fun _ h => h) (fun _ h => h) (SBb hl hn (k _ _))
theorem SB2 {ζ : XW} {De : DEnds} {W : D} {l : List D} {s1 s2 s3 s6 : DL.Slot} (n : Nat) (hl : l.length = n) (hn : n + 2 ≤ 1000) (k : ∀ s5 s6, De.nx [.d W, s1, s2, s3, .d (.lst (l ++ [R5 1 (-1) 1 (-1) 1, R5 (-1) 1 (-1) 1 (-1)])), s5, s6]) : SBB ζ De [.d W, s1, s2, s3, .d (.lst l), .d (.int 2), s6] :=
  SBa (a := 1) (b := -1) (c := 1) (d := -1) (e := 1) (fun _ h => h) (fun _ h => h) (fun _ h => h) (fun _ h => h) (fun _ h => h) (SBb hl hn (k _ _))
theorem SB3 {ζ : XW} {De : DEnds} {W : D} {l : List D} {s1 s2 s3 s6 : DL.Slot} (n : Nat) (hl : l.length = n) (hn : n + 2 ≤ 1000) (k : ∀ s5 s6, De.nx [.d W, s1, s2, s3, .d (.lst (l ++ [R5 1 1 (-1) 1 (-1), R5 (-1) (-1) 1 (-1) 1])), s5, s6]) : SBB ζ De [.d W, s1, s2, s3, .d (.lst l), .d (.int 3), s6] :=
  SBa (a := 1) (b := 1) (c := -1) (d := 1) (e := -1) (fun _ h => h) (fun _ h => h) (fun _ h => h) (fun _ h => h) (fun _ h => h) (SBb hl hn (k _ _))
theorem SB4 {ζ : XW} {De : DEnds} {W : D} {l : List D} {s1 s2 s3 s6 : DL.Slot} (n : Nat) (hl : l.length = n) (hn : n + 2 ≤ 1000) (k : ∀ s5 s6, De.nx [.d W, s1, s2, s3, .d (.lst (l ++ [R5 (-1) 1 1 (-1) 1, R5 1 (-1) (-1) 1 (-1)])), s5, s6]) : SBB ζ De [.d W, s1, s2, s3, .d (.lst l), .d (.int 4), s6] :=
  SBa (a := -1) (b := 1) (c := 1) (d := -1) (e := 1) (fun _ h => h) (fun _ h => h) (fun _ h => h) (fun _ h => h) (fun _ h => h) (SBb hl hn (k _ _))
theorem sides_10 (h : Q (.lst (sortD L10))) {W : D} {s1 : DL.Slot} : (dSeq (dAsg (dLst dNil) (dgName 4))
    (dSeq (dForR (dCons (dC (.int 5)) dNil) (dgName 5) SBB)
    (dRet (dCB gSort (dCons (dVar 4) dNil))))) (fun _ _ => False) { nx := fun _ => Q .non, rt := Q } [.d W, s1, .un, .un, .un, .un, .un] := by
  refine ⟨szN 0, ⟨by decide, by decide⟩, ?_⟩
  show forD (dgName 5) SBB _ _ [.int 0, .int 1, .int 2, .int 3, .int 4] _
  refine for_cons (SB0 0 rfl (by decide) fun _ _ => ?_)
  dsimp only
  refine for_cons (SB1 2 rfl (by decide) fun _ _ => ?_)
  dsimp only
  refine for_cons (SB2 4 rfl (by decide) fun _ _ => ?_)
  dsimp only
  refine for_cons (SB3 6 rfl (by decide) fun _ _ => ?_)
  dsimp only
  refine for_cons (SB4 8 rfl (by decide) fun _ _ => ?_)
  exact ⟨ok10, h⟩
theorem e_lsides {W : List D} (hW : W = [] ∨ (∃ r : Int, (r = 0 ∨ r = 1 ∨ r = 2 ∨ r = 3 ∨ r = 4) ∧ W = [.int r]) ∨ 2 ≤ W.length) (h : Q (.lst (sidesOf W))) : tf__law_sides ξ [.lst W] Q := by
  show T__law_sides (fun _ _ => False) { nx := fun _ => Q .non, rt := Q } [.d (.lst W), .un, .un, .un, .un, .un, .un]
  unfold T__law_sides
  rcases hW with rfl | ⟨r, hr, rfl⟩ | hl
  · refine ⟨szN 0, ⟨⟨rfl, rfl⟩, szN 1, szN 1, c5, ?_⟩⟩
    exact ⟨⟨rfl, rfl⟩, ⟨⟨rfl, rfl⟩, ⟨⟨rfl, rfl⟩, ⟨⟨rfl, rfl⟩, ⟨⟨rfl, rfl⟩, h⟩⟩⟩⟩⟩
  · rcases hr with rfl | rfl | rfl | rfl | rfl
    all_goals
      refine ⟨szN 0, szN 2, szN 2, c5, ?_⟩
      exact ⟨⟨rfl, rfl⟩, ⟨⟨rfl, rfl⟩, ⟨⟨rfl, rfl⟩, ⟨⟨rfl, rfl⟩, ⟨⟨rfl, rfl⟩, c5, ⟨⟨rfl, rfl⟩, ⟨⟨rfl, rfl⟩, ⟨⟨rfl, rfl⟩, ⟨⟨rfl, rfl⟩, ⟨⟨rfl, rfl⟩, h⟩⟩⟩⟩⟩⟩⟩⟩⟩⟩
  · refine ifd (fun z => ?_) (fun _ => ?_)
    · omega
    · cases W with
      | nil => cases hl
      | cons a W =>
        cases W with
        | nil => simp at hl
        | cons b W => exact sides_10 (by cases a <;> exact h)
end K08
set_option Elab.async false
set_option linter.all false
set_option maxHeartbeats 1000000
set_option maxRecDepth 100000
namespace K08
open PySem PySem.Spec L2 DL
variable {ξ : XT} {Q : D → Prop}
/-! ### directions and sides, by the program -/
theorem e_wholeLo {a b d : Int} (p : 1 ≤ d) (q : Q (.bl (hw d (a, b)))) : tf_is_whole ξ [lo a b d] Q := by
  obtain ⟨x, y, z, l⟩ := lo_is (a := a) (b := b) p
  rw [l.eq]
  refine e_whole l.nf.p ?_
  have e : (decide (x % z = 0) && decide (y % z = 0)) = hw d (a, b) := by
    unfold hw
    obtain ⟨r1, r2⟩ := l.r
    have zp := l.nf.p
    rw [Bool.eq_iff_iff]
    simp only [Bool.and_eq_true, decide_eq_true_eq]
    constructor
    · rintro ⟨h1, h2⟩
      have d1 : z.natAbs ∣ x.natAbs := Int.natAbs_dvd_natAbs.mpr (Int.dvd_of_emod_eq_zero h1)
      have d2 : z.natAbs ∣ y.natAbs := Int.natAbs_dvd_natAbs.mpr (Int.dvd_of_emod_eq_zero h2)
      have d3 := Nat.dvd_gcd (Nat.dvd_gcd d1 d2) (Nat.dvd_refl z.natAbs)
      rw [l.nf.g] at d3
      have z1 : z = 1 := by
        have := Nat.le_of_dvd (by decide) d3
        omega
      subst z1
      exact ⟨Int.emod_eq_zero_of_dvd ⟨x, by rw [Int.mul_one] at r1; rw [← r1, Int.mul_comm]⟩, Int.emod_eq_zero_of_dvd ⟨y, by rw [Int.mul_one] at r2; rw [← r2, Int.mul_comm]⟩⟩
    · rintro ⟨h1, h2⟩
      have dn : d ≠ 0 := by omega
      obtain ⟨u, hu⟩ := Int.dvd_of_emod_eq_zero h1
      obtain ⟨v, hv⟩ := Int.dvd_of_emod_eq_zero h2
      have hu : a = d * u := hu
      have hv : b = d * v := hv
      constructor
      · exact Int.emod_eq_zero_of_dvd ⟨u, Int.eq_of_mul_eq_mul_right dn (by rw [r1, hu]; grind)⟩
      · exact Int.emod_eq_zero_of_dvd ⟨v, Int.eq_of_mul_eq_mul_right dn (by rw [r2, hv]; grind)⟩
  rw [e]
  exact q
def kd (d : Int) (ks : List Pr) : List D := ks.map fun k => lo k.1 k.2 d
theorem e_dirs {d : Int} {p q : Pr} (hd : 1 ≤ d) (h : Q (.tup (wh d (five p q)))) : tf__whole_directions ξ [.tup (kd d (five p q))] Q := by
  refine ⟨c5, ?_⟩
  refine lc_filter (f := hwAt d (five p q)) (g := id) ?_ ?_ ?_
  · rw [i5]
    exact five5 (fun K k => ⟨rfl, e_wholeLo hd k⟩) (fun K k => ⟨rfl, e_wholeLo hd k⟩) (fun K k => ⟨rfl, e_wholeLo hd k⟩) (fun K k => ⟨rfl, e_wholeLo hd k⟩) (fun K k => ⟨rfl, e_wholeLo hd k⟩)
  · rw [i5]
    exact five5 (fun K k => k) (fun K k => k) (fun K k => k) (fun K k => k) (fun K k => k)
  · rw [List.map_id]
    exact h
def Shp (W : List D) : Prop := W = [] ∨ (∃ r : Int, (r = 0 ∨ r = 1 ∨ r = 2 ∨ r = 3 ∨ r = 4) ∧ W = [.int r]) ∨ 2 ≤ W.length
theorem shp_filter (f : D → Bool) : Shp (I5.filter f) := by
  unfold Shp I5
  simp only [List.filter]
  cases f (.int 0) <;> cases f (.int 1) <;> cases f (.int 2) <;> cases f (.int 3) <;> cases f (.int 4)
  all_goals first
    | exact .inl rfl
    | exact .inr (.inr (by simp only [List.length_cons]; omega))
    | exact .inr (.inl ⟨_, by decide, rfl⟩)
theorem sides_len {W : List D} (h : 2 ≤ W.length) : sidesOf W = sortD L10 := by
  match W, h with
  | a :: b :: W, _ => cases a <;> rfl
theorem led0 (h : Q (R5 1 (-1) 1 1 (-1))) : tf_led_round ξ [R5 1 (-1) 1 1 (-1), .int 0] Q := ⟨c5, h05, h05, h05, h05, h05, h⟩
theorem led1 (h : Q (R5 (-1) 1 (-1) 1 1)) : tf_led_round ξ [R5 1 (-1) 1 1 (-1), .int 1] Q := ⟨c5, h05, h05, h05, h05, h05, h⟩
theorem led2 (h : Q (R5 1 (-1) 1 (-1) 1)) : tf_led_round ξ [R5 1 (-1) 1 1 (-1), .int 2] Q := ⟨c5, h05, h05, h05, h05, h05, h⟩
theorem led3 (h : Q (R5 1 1 (-1) 1 (-1))) : tf_led_round ξ [R5 1 (-1) 1 1 (-1), .int 3] Q := ⟨c5, h05, h05, h05, h05, h05, h⟩
theorem led4 (h : Q (R5 (-1) 1 1 (-1) 1)) : tf_led_round ξ [R5 1 (-1) 1 1 (-1), .int 4] Q := ⟨c5, h05, h05, h05, h05, h05, h⟩
abbrev PSB : TDS := (dSeq (dAsg (dCall 2 tf_led_round (dCons (dC (.tup [.int (1), .int (-1), .int (1), .int (1), .int (-1)])) (dCons (dVar 3) dNil))) (dgName 4))
    (dSeq (dApp 2 (dVar 4))
    (dApp 2 (dCB gTuple (dCons (dLcV 4 5 dYes (dUn gNeg (dVar 5))) dNil)))))
theorem PSBa {ζ : XW} {De : DEnds} {q a b c d e : Int} {s0 s1 s4 s5 : DL.Slot} {l : List D} {n : Nat} (hq : ∀ P : D → Prop, P (R5 a b c d e) → tf_led_round (fun _ => False) [R5 1 (-1) 1 1 (-1), .int q] P) (hl : l.length = n) (hn : n + 1 < 1000) (k : ∀ s4 s5, De.nx [s0, s1, .own (l ++ [R5 a b c d e] ++ [R5 (-a) (-b) (-c) (-d) (-e)]), .d (.int q), s4, s5]) : PSB ζ De [s0, s1, .own l, .d (.int q), s4, s5] :=
  ⟨rfl, hq _ ⟨by rw [hl]; exact szL _ (by omega), szN 5, by rw [List.length_append, hl]; exact szL _ hn, k _ _⟩⟩
theorem psides_10 (h : Q (.kt (sortD L10))) {K W : D} : (dSeq (dOwn (lLst dNil) 2)
    (dSeq (dForR (dCons (dC (.int 5)) dNil) (dgName 3) PSB)
    (dFreeze 2 (dRet (dCB gTupleK (dCons (dCB gSort (dCons (dVar 2) dNil)) dNil)))))) (fun x _ => ξ x) { nx := fun _ => Q .non, rt := Q } [.d K, .d W, .un, .un, .un, .un] := by
  refine ⟨szN 0, ⟨by decide, by decide⟩, ?_⟩
  show forD (dgName 3) PSB _ _ [.int 0, .int 1, .int 2, .int 3, .int 4] _
  refine for_cons (PSBa (n := 0) (fun _ h => led0 h) rfl (by decide) fun _ _ => ?_)
  dsimp only
  refine for_cons (PSBa (n := 2) (fun _ h => led1 h) rfl (by decide) fun _ _ => ?_)
  dsimp only
  refine for_cons (PSBa (n := 4) (fun _ h => led2 h) rfl (by decide) fun _ _ => ?_)
  dsimp only
  refine for_cons (PSBa (n := 6) (fun _ h => led3 h) rfl (by decide) fun _ _ => ?_)
  dsimp only
  refine for_cons (PSBa (n := 8) (fun _ h => led4 h) rfl (by decide) fun _ _ => ?_)
  exact ⟨ok10, h⟩
theorem e_psides {d : Int} {p q : Pr} (hd : 1 ≤ d) (h : Q (.kt (sidesOf (wh d (five p q))))) : tf__sides_of_K ξ [.tup (kd d (five p q))] Q := by
  refine ⟨rfl, e_dirs hd ?_⟩
  have hW := shp_filter (hwAt d (five p q))
  rw [show I5.filter (hwAt d (five p q)) = wh d (five p q) from rfl] at hW
  generalize wh d (five p q) = W at *
  generalize D.tup (kd d (five p q)) = K
  rcases hW with rfl | ⟨r, hr, rfl⟩ | hl
  · exact ⟨szN 1, h⟩
  · rcases hr with rfl | rfl | rfl | rfl | rfl
    all_goals
      exact ⟨rfl, rfl, szN 1, szN _ (by decide), szN _ (by decide), rfl, rfl, szN 1, szN _ (by decide), szN _ (by decide), szN 2, h⟩
  · refine ifd (fun z => ?_) (fun _ => ?_)
    · omega
    · refine ifd (fun z => ?_) (fun _ => ?_)
      · omega
      · rw [sides_len hl] at h
        exact psides_10 h
end K08
set_option Elab.async false
set_option linter.all false
set_option maxHeartbeats 1000000
set_option maxRecDepth 100000
namespace K08
open PySem PySem.Spec L2 DL
variable {ξ : XT} {Q : D → Prop}
/-! ### rows -/
theorem row_of {W : List D} (hW : Shp W) : ∀ s ∈ sidesOf W, ∃ a b c d e : Int, s = R5 a b c d e := by
  rcases hW with rfl | ⟨r, hr, rfl⟩ | hl
  · intro s m
    simp only [sidesOf, List.mem_cons, List.not_mem_nil, or_false] at m
    exact ⟨_, _, _, _, _, m⟩
  · intro s m
    rcases hr with rfl | rfl | rfl | rfl | rfl <;>
    · simp only [sidesOf, oneS, List.mem_cons, List.not_mem_nil, or_false] at m
      rcases m with m | m <;> exact ⟨_, _, _, _, _, m⟩
  · intro s m
    rw [sides_len hl] at m
    have m := mem_sort.mp m
    simp only [L10, List.mem_cons, List.not_mem_nil, or_false] at m
    rcases m with m | m | m | m | m | m | m | m | m | m <;> exact ⟨_, _, _, _, _, m⟩
theorem rows_ok : ∀ {ds : List D}, (∀ s ∈ ds, ∃ a b c d e : Int, s = R5 a b c d e) → plains ds = true ∧ PyData.canLayAll0 (toPs ds) = true ∧ PyData.depthAll (toPs ds) ≤ 2
  | [], _ => by simp [plains, toPs, PyData.canLayAll0, PyData.depthAll]
  | d :: ds, h => by
    obtain ⟨h1, h2, h3⟩ := rows_ok fun s m => h s (List.mem_cons_of_mem _ m)
    obtain ⟨a, b, c, x, e, rfl⟩ := h d List.mem_cons_self
    refine ⟨?_, ?_, ?_⟩
    · show (DL.plain (R5 a b c x e) && plains ds) = true
      rw [h1]; rfl
    · simp only [toPs, toP, PyData.canLayAll0, PyData.canLay0, h2, Bool.and_self, Bool.and_true]
    · simp only [toPs, toP, PyData.depthAll, PyData.depth]
      omega
theorem eqOk_kt {ds : List D} (h : ∀ s ∈ ds, ∃ a b c d e : Int, s = R5 a b c d e) : eqOk (.kt ds) = true := by
  obtain ⟨h1, h2, h3⟩ := rows_ok h
  have e1 : DL.plain (.kt ds) = true := h1
  have e2 : SeqAt.shaped (toP (.kt ds)) = true := by
    simp only [toP, SeqAt.shaped, PyData.canLay0, PyData.depth, h2, Bool.true_and, decide_eq_true_eq]
    omega
  unfold eqOk
  rw [e1, e2]; rfl
theorem eqOk_r {a b c d e : Int} : eqOk (R5 a b c d e) = true := by
  simp [eqOk, DL.plain, plains, toP, toPs, SeqAt.shaped, PyData.canLay0, PyData.canLayAll0, PyData.depth, PyData.depthAll]
theorem eqv_r {a b c d e : Int} : PyData.eqv (toP (R5 a b c d e)) (toP (R5 a b c d e)) = true := by
  simp [toP, toPs, PyData.eqv, PyData.eqvAll]
theorem toPs_map : ∀ ds : List D, toPs ds = ds.map toP
  | [] => rfl
  | d :: ds => by
    show toP d :: toPs ds = _
    rw [toPs_map ds]; rfl
theorem in_rows {a b c d e : Int} {ds : List D} (m : R5 a b c d e ∈ ds) : inD (R5 a b c d e) ds = true := by
  unfold inD
  rw [toPs_map, List.any_map, List.any_eq_true]
  exact ⟨_, m, eqv_r⟩
theorem e_api {a b c d e : Int} (k : Q (.bl true)) : tf_are_plain_integers ξ [R5 a b c d e, .int 5] Q := by
  refine ⟨rfl, ⟨rfl, ?_⟩⟩
  exact ⟨szN 5, rfl, e_ipi rfl ⟨rfl, e_ipi rfl ⟨rfl, e_ipi rfl ⟨rfl, e_ipi rfl ⟨rfl, e_ipi rfl k⟩⟩⟩⟩⟩
/-! ### keys -/
structure Kb (N : Nat) (d : Int) (p : Pr) : Prop where
  bp : Bp N p
  bd : Bd N d
  p : 1 ≤ d
theorem Kb.lo {N : Nat} {d : Int} {p : Pr} (h : Kb N d p) : ∃ x y z, Lo p.1 p.2 d x y z ∧ Gs N x y z := by
  obtain ⟨x, y, z, l⟩ := lo_is (a := p.1) (b := p.2) h.p
  exact ⟨x, y, z, l, l.bx _ h.bp.h1, l.by_ _ h.bp.h2, l.bz _ h.bd, l.nf.p⟩
abbrev LO (p : Pr) (d : Int) : D := lo p.1 p.2 d
section
variable {N : Nat} {d : Int} {p q : Pr}
theorem t_key (h : Kb N d p) (l : N ≤ 4000) (k : Q (LO (-p.2, -p.1 - p.2) d)) : tf_times ξ [T3 0 (-1) 1, LO p d] Q := by
  obtain ⟨x, y, z, l1, g⟩ := h.lo
  rw [show LO p d = T3 x y z from l1.eq]
  refine x_times (n := 1) ⟨.lit (by decide), .lit (by decide), .lit (by decide), by decide⟩ g (by omega) ?_
  have gp := g.p
  have hp := h.p
  obtain ⟨r1, r2⟩ := l1.r
  have e : lo (0 * x + -1 * y) (0 * y + -1 * x + -1 * y) (1 * z) = LO (-p.2, -p.1 - p.2) d := by
    refine lo_eq (by omega) hp ⟨?_, ?_⟩
    · show -p.2 * (1 * z) = (0 * x + -1 * y) * d
      grind
    · show (-p.1 - p.2) * (1 * z) = (0 * y + -1 * x + -1 * y) * d
      grind
  rw [e]
  exact k
theorem m_key (h : Kb N d p) (h' : Kb N d q) (l : N ≤ 4000) (k : Q (LO (p.1 - q.1, p.2 - q.2) d)) : tf_minus ξ [LO p d, LO q d] Q := by
  obtain ⟨x, y, z, l1, g⟩ := h.lo
  obtain ⟨x', y', z', l2, g'⟩ := h'.lo
  rw [show LO p d = T3 x y z from l1.eq, show LO q d = T3 x' y' z' from l2.eq]
  refine x_minus g g' (by omega) ?_
  have gp := mulp g.p g'.p
  have hp := h.p
  have zz : d ≠ 0 := by omega
  obtain ⟨r1, r2⟩ := l1.r
  obtain ⟨r3, r4⟩ := l2.r
  have e : lo (x * z' - x' * z) (y * z' - y' * z) (z * z') = LO (p.1 - q.1, p.2 - q.2) d := by
    refine lo_eq gp hp ⟨?_, ?_⟩
    · show (p.1 - q.1) * (z * z') = (x * z' - x' * z) * d
      grind
    · show (p.2 - q.2) * (z * z') = (y * z' - y' * z) * d
      grind
  rw [e]
  exact k
theorem r_key {a b c : Int} (g : Gs N a b c) (hd : 1 ≤ d) (l : N ≤ 4000) (r : Rl a b c p.1 p.2 d) (k : Q (LO p d)) : tf_reduced ξ [T3 a b c] Q := by
  refine x_reduced g (by omega) ?_
  rw [lo_eq g.p hd r]
  exact k
abbrev WC : TDT := (dTest (dBin gLt (dLend 3 (dCB gLen (dCons (dVar 3) dNil))) (dC (.int 5))))
abbrev WB : TDS := (dApp 3 (dCallX 2 tf_minus (dCons (dCallX 2 tf_times (dCons (dVar 0) (dCons (dOwnIx 3 (dUn gNeg (dC (.int 1)))) dNil))) (dCons (dOwnIx 3 (dUn gNeg (dC (.int 2)))) dNil))))
abbrev L2k : D := .tup [.int 0, .int (-1), .int 1]
theorem w_go {De : DEnds} {ζ : XW} {s0 s1 s2 : DL.Slot} {n : Nat} {l : List D} (hl : l.length < 5) (k : WB ζ { De with nx := whileN WC WB ζ De n, ct := whileN WC WB ζ De n, bk := De.nx } [s0, s1, s2, .own l]) : whileN WC WB ζ De (n + 1) [s0, s1, s2, .own l] := by
  have e : decide ((l.length : Int) < 5) = true := decide_eq_true (by omega)
  show flatD (.int (l.length : Int)) = true ∧ (if decide ((l.length : Int) < 5) = true then WB ζ { De with nx := whileN WC WB ζ De n, ct := whileN WC WB ζ De n, bk := De.nx } [s0, s1, s2, .own l] else De.nx [s0, s1, s2, .own l])
  rw [e]
  exact ⟨rfl, k⟩
theorem w_end {De : DEnds} {ζ : XW} {s0 s1 s2 : DL.Slot} {n : Nat} {l : List D} (hl : ¬ l.length < 5) (k : De.nx [s0, s1, s2, .own l]) : whileN WC WB ζ De (n + 1) [s0, s1, s2, .own l] := by
  have e : decide ((l.length : Int) < 5) = false := decide_eq_false (by omega)
  show flatD (.int (l.length : Int)) = true ∧ (if decide ((l.length : Int) < 5) = true then WB ζ { De with nx := whileN WC WB ζ De n, ct := whileN WC WB ζ De n, bk := De.nx } [s0, s1, s2, .own l] else De.nx [s0, s1, s2, .own l])
  rw [e]
  exact ⟨rfl, k⟩
theorem wb_go {De : DEnds} {ζ : XW} {s1 s2 : DL.Slot} {l : List D} {n : Nat} (h2 : atI l (-2) = some (LO p d)) (h1 : atI l (-1) = some (LO q d)) (hp : Kb N d p) (hq : Kb N d q) (lN : N + 2 ≤ 4000) (hl : l.length = n) (hn : n < 1000) (k : De.nx [.d L2k, s1, s2, .own (l ++ [LO (ru p q) d])]) : WB ζ De [.d L2k, s1, s2, .own l] := by
  show (match atI l (-1) with
    | some d => _
    | none => False)
  rw [h1]
  refine ⟨rfl, t_key hq (by omega) ?_⟩
  show (match atI l (-2) with
    | some d => _
    | none => False)
  rw [h2]
  have kb : Kb (N + 2) d (-q.2, -q.1 - q.2) := ⟨⟨hq.bp.h2.neg.mono (by omega), (hq.bp.h1.neg.sub hq.bp.h2).mono (by omega)⟩, hq.bd.mono (by omega), hq.p⟩
  refine ⟨rfl, m_key kb ⟨hp.bp.mono, hp.bd.mono (by omega), hp.p⟩ (by omega) ⟨by rw [hl]; exact szL _ hn, k⟩⟩
theorem e_five (h0 : Kb N d p) (h1 : Kb N d q) (l : N ≤ 3000) (k : Q (.tup (kd d (five p q)))) : tf_five_by_rule ξ [L2k, LO p d, LO q d] Q := by
  refine ⟨szN 2, 4, ?_⟩
  have h2 : Kb (N + 2) d (ru p q) := ⟨h0.bp.ru h1.bp, h0.bd.mono (by omega), h0.p⟩
  have h1' : Kb (N + 2) d q := ⟨h1.bp.mono, h1.bd.mono (by omega), h1.p⟩
  have h3 : Kb (N + 4) d (ru q (ru p q)) := ⟨h1'.bp.ru h2.bp, h0.bd.mono (by omega), h0.p⟩
  have h2' : Kb (N + 4) d (ru p q) := ⟨h2.bp.mono, h2.bd.mono (by omega), h2.p⟩
  refine w_go (l := [LO p d, LO q d]) (by show 2 < 5; decide) ?_
  refine wb_go (n := 2) rfl rfl h0 h1 (by omega) rfl (by decide) ?_
  refine w_go (l := [LO p d, LO q d] ++ [LO (ru p q) d]) (by show 3 < 5; decide) ?_
  refine wb_go (n := 3) rfl rfl h1' h2 (by omega) rfl (by decide) ?_
  refine w_go (l := [LO p d, LO q d] ++ [LO (ru p q) d] ++ [LO (ru q (ru p q)) d]) (by show 4 < 5; decide) ?_
  refine wb_go (n := 4) rfl rfl h2' h3 (by omega) rfl (by decide) ?_
  exact w_end (l := kd d (five p q)) (by show ¬ 5 < 5; decide) k
theorem e_keys {a b c a' b' c' : Int} (g : Gs N a b c) (g' : Gs N a' b' c') (r : Rl a b c p.1 p.2 d) (r' : Rl a' b' c' q.1 q.2 d) (h0 : Kb N d p) (h1 : Kb N d q) (l : N ≤ 3000) (k : Q (.tup (kd d (five p q)))) : tf_keys_by ξ [T3 a b c, T3 a' b' c'] Q :=
  ⟨rfl, r_key g h0.p (by omega) r ⟨rfl, r_key g' h0.p (by omega) r' ⟨rfl, e_five h0 h1 l k⟩⟩⟩
abbrev FV (d : Int) (p q : Pr) (s : D) : D := .ins "Floor" ["all_keys", "side"] [.tup (kd d (five p q)), s]
theorem e_init {a b c a' b' c' : Int} {s : D} (g : Gs N a b c) (g' : Gs N a' b' c') (r : Rl a b c p.1 p.2 d) (r' : Rl a' b' c' q.1 q.2 d) (h0 : Kb N d p) (h1 : Kb N d q) (l : N ≤ 3000) (hs : s ∈ sidesOf (wh d (five p q))) (k : Q (FV d p q s)) : tf_Floor_init ξ [T3 a b c, T3 a' b' c', s] Q := by
  have sh : Shp (wh d (five p q)) := shp_filter _
  have rows := row_of sh
  obtain ⟨a1, a2, a3, a4, a5, rfl⟩ := rows s hs
  intro v
  refine ⟨rfl, e_keys g g' r r' h0 h1 l ?_⟩
  refine ⟨rfl, e_api ?_⟩
  refine ⟨rfl, e_psides h0.p ⟨⟨eqOk_r, eqOk_kt rows⟩, ?_⟩⟩
  show (if (!inD (R5 a1 a2 a3 a4 a5) (sidesOf (wh d (five p q)))) = true then _ else _)
  rw [in_rows hs]
  exact ⟨rfl, _, rfl, k⟩
end
end K08
set_option Elab.async false
set_option linter.all false
set_option maxHeartbeats 1000000
set_option maxRecDepth 100000
namespace K08
open PySem PySem.Spec L2 DL
variable {ξ : XT} {Q : D → Prop}
/-! ### equal floors -/
theorem los_ok {d : Int} (hd : 1 ≤ d) : ∀ ks : List Pr, plains (kd d ks) = true ∧ PyData.canLayAll0 (toPs (kd d ks)) = true ∧ PyData.depthAll (toPs (kd d ks)) ≤ 2 ∧ PyData.eqvAll (toPs (kd d ks)) (toPs (kd d ks)) = true
  | [] => by simp [kd, plains, toPs, PyData.canLayAll0, PyData.depthAll, PyData.eqvAll]
  | k :: ks => by
    obtain ⟨h1, h2, h3, h4⟩ := los_ok hd ks
    obtain ⟨x, y, z, l⟩ := lo_is (a := k.1) (b := k.2) hd
    have e : kd d (k :: ks) = T3 x y z :: kd d ks := by
      show LO k d :: kd d ks = _
      rw [show LO k d = T3 x y z from l.eq]
    rw [e]
    refine ⟨?_, ?_, ?_, ?_⟩
    · show (DL.plain (T3 x y z) && plains (kd d ks)) = true
      rw [h1]; rfl
    · simp only [toPs, toP, PyData.canLayAll0, PyData.canLay0, h2, Bool.and_self, Bool.and_true]
    · simp only [toPs, toP, PyData.depthAll, PyData.depth]
      omega
    · simp [toPs, toP, PyData.eqvAll, PyData.eqv, h4]
theorem eqOk_kd {d : Int} (hd : 1 ≤ d) (ks : List Pr) : eqOk (.tup (kd d ks)) = true := by
  obtain ⟨h1, h2, h3, _⟩ := los_ok hd ks
  have e1 : DL.plain (.tup (kd d ks)) = true := h1
  have e2 : SeqAt.shaped (toP (.tup (kd d ks))) = true := by
    simp only [toP, SeqAt.shaped, PyData.canLay0, PyData.depth, h2, Bool.true_and, decide_eq_true_eq]
    omega
  unfold eqOk
  rw [e1, e2]; rfl
theorem eqv_kd {d : Int} (hd : 1 ≤ d) (ks : List Pr) : PyData.eqv (toP (.tup (kd d ks))) (toP (.tup (kd d ks))) = true := by
  obtain ⟨_, _, _, h4⟩ := los_ok hd ks
  simp only [toP, PyData.eqv, h4]
section
variable {N : Nat} {d : Int} {p q : Pr} {s : D} {P : D → Prop}
theorem fld_k (h : P (.tup (kd d (five p q)))) : gFld "all_keys" (FV d p q s) P := by
  show (match ((["all_keys", "side"] : List Str).zip [.tup (kd d (five p q)), s]).lookup ("all_keys" : Str) with
    | some d => P d
    | none => False)
  rw [show ((["all_keys", "side"] : List Str).zip [.tup (kd d (five p q)), s]).lookup ("all_keys" : Str) = some (.tup (kd d (five p q))) from rfl]
  exact h
theorem fld_s (h : P s) : gFld "side" (FV d p q s) P := by
  show (match ((["all_keys", "side"] : List Str).zip [.tup (kd d (five p q)), s]).lookup ("side" : Str) with
    | some d => P d
    | none => False)
  rw [show ((["all_keys", "side"] : List Str).zip [.tup (kd d (five p q)), s]).lookup ("side" : Str) = some s from rfl]
  exact h
theorem e_eqF (hd : 1 ≤ d) (hs : ∃ a b c x e : Int, s = R5 a b c x e) (h : P (.bl true)) : tf_Floor_eq ξ [FV d p q s, FV d p q s] P := by
  obtain ⟨a1, a2, a3, a4, a5, rfl⟩ := hs
  show T_Floor_eq (fun _ _ => False) { nx := fun _ => P .non, rt := P } [.d (FV d p q (R5 a1 a2 a3 a4 a5)), .d (FV d p q (R5 a1 a2 a3 a4 a5))]
  refine ⟨rfl, ?_⟩
  refine ⟨⟨eqOk_kd hd _, eqOk_kd hd _⟩, ?_⟩
  rw [eqv_kd hd]
  refine ⟨⟨eqOk_r, eqOk_r⟩, ?_⟩
  rw [eqv_r]
  exact h
theorem e_eqI (hd : 1 ≤ d) (hs : ∃ a b c x e : Int, s = R5 a b c x e) (h : P (.bl true)) : gEqI "Floor" tf_Floor_eq (FV d p q s) (FV d p q s) P := ⟨⟨rfl, rfl⟩, e_eqF hd hs h⟩
theorem e_wkeys (hd : 1 ≤ d) (h : Q (.tup (wh d (five p q)))) : tf_whole_keys ξ [FV d p q s] Q := by
  exact (⟨rfl, e_dirs hd h⟩ : [D.tup (kd d (five p q))].length = 1 ∧ tf__whole_directions (fun x => ξ x) [.tup (kd d (five p q))] Q)
end
/-! ### gathered -/
def gfn (n : Int) : Pr := ml (sg n, 0) (pw n)
theorem sg_add (n m : Int) : sg (n + m) = sg n * sg m := by
  unfold sg
  split <;> split <;> split <;> omega
theorem fn_add (n m : Int) : gfn (n + m) = ml (gfn n) (gfn m) := by
  unfold gfn
  rw [pw_add, sg_add]
  apply pr_ext <;> simp only [ml] <;> grind
theorem fn_zero : gfn 0 = (1, 0) := by decide
theorem fn_inv (n : Int) : ml (gfn (-n)) (gfn n) = (1, 0) := by
  rw [← fn_add, show -n + n = 0 by omega, fn_zero]
theorem bd_fn {n : Int} {N : Nat} (h : n.natAbs ≤ N) : Bp (N + 1) (gfn n) := by
  have b := bd_pw h
  rcases sg_or n with e | e
  · have : gfn n = pw n := by
      unfold gfn
      rw [e, ml_comm, ml_one]
    rw [this]
    exact ⟨b.1, b.2⟩
  · have : gfn n = (-(pw n).1, -(pw n).2) := by
      unfold gfn
      rw [e]
      apply pr_ext <;> simp only [ml] <;> grind
    rw [this]
    exact ⟨b.1.neg, b.2.neg⟩
def ngD : D → D
  | .tup [.int a, .int b, .int c, .int d, .int e] => R5 (-a) (-b) (-c) (-d) (-e)
  | x => x
def sd (n : Int) (s : D) : D := if n % 2 = 0 then s else ngD s
theorem ng_mem {W : List D} (hW : Shp W) {s : D} (m : s ∈ sidesOf W) : ngD s ∈ sidesOf W := by
  rcases hW with rfl | ⟨r, hr, rfl⟩ | hl
  · simp only [sidesOf, List.mem_cons, List.not_mem_nil, or_false] at m ⊢
    subst m
    rfl
  · rcases hr with rfl | rfl | rfl | rfl | rfl <;>
    · simp only [sidesOf, oneS, List.mem_cons, List.not_mem_nil, or_false] at m ⊢
      rcases m with rfl | rfl
      · exact .inr rfl
      · exact .inl rfl
  · rw [sides_len hl] at m ⊢
    have m := mem_sort.mp m
    refine mem_sort.mpr ?_
    simp only [L10, List.mem_cons, List.not_mem_nil, or_false] at m ⊢
    rcases m with rfl | rfl | rfl | rfl | rfl | rfl | rfl | rfl | rfl | rfl
    · exact .inr (.inl rfl)
    · exact .inl rfl
    · exact .inr (.inr (.inr (.inl rfl)))
    · exact .inr (.inr (.inl rfl))
    · exact .inr (.inr (.inr (.inr (.inr (.inl rfl)))))
    · exact .inr (.inr (.inr (.inr (.inl rfl))))
    · exact .inr (.inr (.inr (.inr (.inr (.inr (.inr (.inl rfl)))))))
    · exact .inr (.inr (.inr (.inr (.inr (.inr (.inl rfl))))))
    · exact .inr (.inr (.inr (.inr (.inr (.inr (.inr (.inr (.inr rfl))))))))
    · exact .inr (.inr (.inr (.inr (.inr (.inr (.inr (.inr (.inl rfl))))))))
theorem sd_mem {W : List D} (hW : Shp W) {s : D} (n : Int) (m : s ∈ sidesOf W) : sd n s ∈ sidesOf W := by
  unfold sd
  split
  · exact m
  · exact ng_mem hW m
theorem ng_ng {s : D} (h : ∃ a b c x e : Int, s = R5 a b c x e) : ngD (ngD s) = s := by
  obtain ⟨a1, a2, a3, a4, a5, rfl⟩ := h
  simp only [ngD, Int.neg_neg]
theorem ng_row {s : D} (h : ∃ a b c x e : Int, s = R5 a b c x e) : ∃ a b c x e : Int, ngD s = R5 a b c x e := by
  obtain ⟨a1, a2, a3, a4, a5, rfl⟩ := h
  exact ⟨_, _, _, _, _, rfl⟩
theorem sd_row {s : D} (n : Int) (h : ∃ a b c x e : Int, s = R5 a b c x e) : ∃ a b c x e : Int, sd n s = R5 a b c x e := by
  unfold sd
  split
  · exact h
  · exact ng_row h
theorem sd_add {s : D} (h : ∃ a b c x e : Int, s = R5 a b c x e) (n m : Int) : sd n (sd m s) = sd (n + m) s := by
  unfold sd
  split <;> split <;> split <;> first | rfl | exact ng_ng h | omega
section
variable {N : Nat} {d : Int} {p q : Pr} {s : D}
theorem Kb.ml {n : Int} {A : Nat} (h : Kb N d p) (hn : n.natAbs ≤ A) : Kb (N + A + 3) d (ml (gfn n) p) := by
  have f := bd_fn hn
  obtain ⟨z1, z2⟩ := bd_ml f.h1 f.h2 h.bp.h1 h.bp.h2
  exact ⟨⟨z1.mono (by omega), z2.mono (by omega)⟩, h.bd.mono (by omega), h.p⟩
theorem f_key {n : Int} (h : Kb N d p) (hn : n.natAbs ≤ 400) (l : N ≤ 3000) (k : Q (LO (ml (gfn n) p) d)) : tf_times ξ [T3 (gfn n).1 (gfn n).2 1, LO p d] Q := by
  obtain ⟨x, y, z, l1, g⟩ := h.lo
  rw [show LO p d = T3 x y z from l1.eq]
  have f := bd_fn hn
  refine x_times (n := 401) ⟨f.h1, f.h2, Bd.mono (n := 1) (.lit (by decide)) (by decide), by decide⟩ g (by omega) ?_
  have gp := g.p
  have hp := h.p
  obtain ⟨r1, r2⟩ := l1.r
  have e : lo ((gfn n).1 * x + (gfn n).2 * y) ((gfn n).1 * y + (gfn n).2 * x + (gfn n).2 * y) (1 * z) = LO (ml (gfn n) p) d := by
    refine lo_eq (by omega) hp ⟨?_, ?_⟩
    · show ((gfn n).1 * p.1 + (gfn n).2 * p.2) * (1 * z) = ((gfn n).1 * x + (gfn n).2 * y) * d
      grind
    · show ((gfn n).1 * p.2 + (gfn n).2 * p.1 + (gfn n).2 * p.2) * (1 * z) = ((gfn n).1 * y + (gfn n).2 * x + (gfn n).2 * y) * d
      grind
  rw [e]
  exact k
end
end K08
set_option Elab.async false
set_option linter.all false
set_option maxHeartbeats 1000000
set_option maxRecDepth 100000
namespace K08
open PySem PySem.Spec L2 DL
variable {ξ : XT} {Q : D → Prop}
/-! ### gathering -/
def GT1 : TDS := (dIfS (dtOr (dtNot (dTest (dCall 1 tf_is_plain_integer (dCons (dVar 1) dNil)))) (dTest (dBin gGt (dCB gAbs (dCons (dVar 1) dNil)) (dC (.int 400))))) (dRaise1 "BadCount" "thing" (dVar 1)) dNext)
def GT2 : TDS := (dAsg (dCallX 1 tf_power (dCons (dVar 1) dNil)) (dgName 2))
def GT3 : TDS := (dAsg (dUn (gFld "side") (dVar 0)) (dgName 3))
def GT4 : TDS := (dIfS (dTest (dBin gEq (dBin gMod (dVar 1) (dC (.int 2))) (dC (.int 1)))) (dSeq (dAsg (dCallX 2 tf_minus (dCons (dC (.tup [.int (0), .int (0), .int (1)])) (dCons (dVar 2) dNil))) (dgName 2)) (dAsg (dCB gTuple (dCons (dLcV 3 4 dYes (dUn gNeg (dVar 4))) dNil)) (dgName 3))) dNext)
def GT5 : TDS := (dRet (dMk 3 [] tf_Floor_init (dCons (dCallX 2 tf_times (dCons (dVar 2) (dCons (dBin gIx (dUn (gFld "all_keys") (dVar 0)) (dC (.int 0))) dNil))) (dCons (dCallX 2 tf_times (dCons (dVar 2) (dCons (dBin gIx (dUn (gFld "all_keys") (dVar 0)) (dC (.int 1))) dNil))) (dCons (dVar 3) dNil)))))
theorem GT_eq : T_gathered_times = (dSeq GT1 (dSeq GT2 (dSeq GT3 (dSeq GT4 GT5)))) := rfl
section
variable {De : DEnds} {ζ : XW} {U : TDS} {N : Nat} {d n : Int} {p q : Pr} {s : D}
theorem gt1 (hn : n.natAbs ≤ 400) {s0 s2 s3 s4 : DL.Slot} (h : U ζ De [s0, .d (.int n), s2, s3, s4]) : dSeq GT1 U ζ De [s0, .d (.int n), s2, s3, s4] := by
  refine ⟨rfl, e_ipi rfl ?_⟩
  show (if decide ((if n < 0 then -n else n) > 400) = true then _ else _)
  rw [decide_eq_false (by split <;> omega : ¬ (if n < 0 then -n else n) > 400)]
  exact h
theorem gt2 (hn : n.natAbs ≤ 400) {s0 s2 s3 s4 : DL.Slot} (h : U ζ De [s0, .d (.int n), .d (T3 (pw n).1 (pw n).2 1), s3, s4]) : dSeq GT2 U ζ De [s0, .d (.int n), s2, s3, s4] := ⟨rfl, x_power (by omega) h⟩
theorem gt3 {s1 s2 s3 s4 : DL.Slot} (h : U ζ De [.d (FV d p q s), s1, s2, .d s, s4]) : dSeq GT3 U ζ De [.d (FV d p q s), s1, s2, s3, s4] := h
theorem sg_even (h : n % 2 = 0) : sg n = 1 := if_pos h
theorem sg_odd (h : ¬ n % 2 = 0) : sg n = -1 := if_neg h
theorem gt4 (hn : n.natAbs ≤ 400) (hs : ∃ a b c x e : Int, s = R5 a b c x e) {s0 s4 : DL.Slot} (h : ∀ s4, U ζ De [s0, .d (.int n), .d (T3 (gfn n).1 (gfn n).2 1), .d (sd n s), s4]) : dSeq GT4 U ζ De [s0, .d (.int n), .d (T3 (pw n).1 (pw n).2 1), .d s, s4] := by
  obtain ⟨a, b, c, x, e, rfl⟩ := hs
  have g := gs_pw (n := n) (by omega)
  refine ⟨(by show (0 : Int) < 2; decide), ?_⟩
  refine ifd (fun ho => ?_) (fun he => ?_)
  · have ho : n % 2 = 1 := ho
    refine ⟨rfl, x_minus (n := 1) ⟨.lit (by decide), .lit (by decide), .lit (by decide), by decide⟩ g (by decide) ?_⟩
    have e1 : lo (0 * 1 - (pw n).1 * 1) (0 * 1 - (pw n).2 * 1) (1 * 1) = T3 (gfn n).1 (gfn n).2 1 := by
      rw [show (1 : Int) * 1 = 1 from rfl, lo_1]
      unfold gfn
      rw [sg_odd (by omega)]
      simp only [ml]
      congr 2 <;> grind
    rw [e1]
    refine ⟨szN 5, ?_⟩
    have h := h s4
    unfold sd at h
    rw [if_neg (by omega)] at h
    exact h
  · have he : ¬ n % 2 = 1 := he
    have h := h s4
    unfold sd at h
    rw [if_pos (by omega)] at h
    have e1 : gfn n = pw n := by
      unfold gfn
      rw [sg_even (by omega), ml_comm, ml_one]
    rw [e1] at h
    exact h
theorem gt5 (hn : n.natAbs ≤ 400) (h0 : Kb N d p) (h1 : Kb N d q) (l : N ≤ 1500) (hs : s ∈ sidesOf (wh d (five p q))) {s' : D} {s1 s4 : DL.Slot} (k : De.rt (FV d (ml (gfn n) p) (ml (gfn n) q) (sd n s))) : GT5 ζ De [.d (FV d p q s'), s1, .d (T3 (gfn n).1 (gfn n).2 1), .d (sd n s), s4] := by
  have b0 := h0.ml hn
  have b1 := h1.ml hn
  obtain ⟨x, y, z, l1, g⟩ := b0.lo
  obtain ⟨x', y', z', l2, g'⟩ := b1.lo
  refine ⟨rfl, f_key h0 hn (by omega) ?_⟩
  refine ⟨rfl, f_key h1 hn (by omega) ?_⟩
  rw [show LO (ml (gfn n) p) d = T3 x y z from l1.eq, show LO (ml (gfn n) q) d = T3 x' y' z' from l2.eq]
  refine ⟨rfl, e_init (N := N + 400 + 3) g g' l1.r.symm l2.r.symm b0 b1 (by omega) ?_ k⟩
  rw [wh_ml (fn_inv n)]
  exact sd_mem (shp_filter _) n hs
end
theorem e_gather {N : Nat} {d n : Int} {p q : Pr} {s : D} (hn : n.natAbs ≤ 400) (h0 : Kb N d p) (h1 : Kb N d q) (l : N ≤ 1500) (hs : s ∈ sidesOf (wh d (five p q))) (k : Q (FV d (ml (gfn n) p) (ml (gfn n) q) (sd n s))) : tf_gathered_times ξ [FV d p q s, .int n] Q := by
  show T_gathered_times (fun x _ => ξ x) { nx := fun _ => Q .non, rt := Q } [.d (FV d p q s), .d (.int n), .un, .un, .un]
  rw [GT_eq]
  refine gt1 hn ?_
  refine gt2 hn ?_
  refine gt3 ?_
  refine gt4 hn (row_of (shp_filter _) s hs) fun s4 => ?_
  exact gt5 hn h0 h1 l hs k
end K08
set_option Elab.async false
set_option linter.all false
set_option maxHeartbeats 1000000
set_option maxRecDepth 100000
namespace K08
open PySem PySem.Spec L2 DL
variable {ξ : XT} {Q : D → Prop}
/-! ### very small moves: anything -/
def TY1 : TDS := (dAsg (dLcR (dCons (dC (.int 5)) dNil) 2 (dTest (dBin gNe (dBin gIx (dVar 0) (dVar 2)) (dC (.int 0)))) (dVar 2)) (dgName 1))
def TY2 : TDS := (dIfS (dTest (dBin gEq (dVar 1) (dLst dNil))) (dRet (dBin gMulA (dLst (dCons (dTup (dCons (dC (.int 0)) (dCons (dC (.int 0)) dNil))) dNil)) (dC (.int 5)))) dNext)
def TY3 : TDS := (dIfS (dTest (dBin gEq (dCB gLen (dCons (dVar 1) dNil)) (dC (.int 1)))) (dRet (dCall 3 tf__law_keys (dCons (dTup (dCons (dBin gIx (dVar 0) (dBin gIx (dVar 1) (dC (.int 0)))) (dCons (dC (.int 0)) dNil))) (dCons (dTup (dCons (dC (.int 0)) (dCons (dC (.int 0)) dNil))) (dCons (dBin gIx (dVar 1) (dC (.int 0))) dNil))))) dNext)
def TY4 : TDS := (dAsg (dLcR (dCons (dC (.int 5)) dNil) 4 dYes (dBin gAddA (dSl (dVar 0) (dPart (dVar 4)) dNoPart) (dSl (dVar 0) dNoPart (dPart (dVar 4))))) (dgName 3))
def TY5 : TDS := (dAsg (dBin gIx (dLcR (dCons (dC (.int 5)) dNil) 4 (dtAnd (dTest (dBin gEq (dBin gIx (dBin gIx (dVar 3) (dVar 4)) (dC (.int 2))) (dBin gIx (dBin gIx (dVar 3) (dVar 4)) (dC (.int 0))))) (dtAnd (dTest (dBin gEq (dBin gIx (dBin gIx (dVar 3) (dVar 4)) (dC (.int 3))) (dBin gIx (dBin gIx (dVar 3) (dVar 4)) (dC (.int 0))))) (dTest (dBin gNe (dBin gIx (dBin gIx (dVar 3) (dVar 4)) (dC (.int 1))) (dBin gIx (dBin gIx (dVar 3) (dVar 4)) (dC (.int 0))))))) (dVar 4)) (dC (.int 0))) (dgName 4))
def TY6 : TDS := (dRet (dCall 3 tf__law_keys (dCons (dTup (dCons (dBin gMulA (dC (.int 5)) (dBin gIx (dVar 0) (dVar 4))) (dCons (dC (.int 0)) dNil))) (dCons (dTup (dCons (dBin gMulA (dUn gNeg (dC (.int 4))) (dBin gIx (dVar 0) (dVar 4))) (dCons (dC (.int 0)) dNil))) (dCons (dVar 4) dNil)))))
theorem TY_eq : T__law_tiny = (dSeq TY1 (dSeq TY2 (dSeq TY3 (dSeq TY4 (dSeq TY5 TY6))))) := rfl
theorem tiny0 (h : ∀ x, Q x) : tf__law_tiny ξ [Z5] Q := by
  refine ⟨c5, szN 0, ⟨rfl, rfl⟩, ?_⟩
  exact ⟨szN 2, szN 1, ⟨by decide, by decide, szN 5⟩, h _⟩
theorem m51 : CMulW 5 1 := Bd.cmul (n := 3) (m := 1) .lit .lit
theorem m52 : CMulW 5 (-1) := Bd.cmul (n := 3) (m := 1) .lit .lit
theorem m41 : CMulW (-4) 1 := Bd.cmul (n := 3) (m := 1) .lit .lit
theorem m42 : CMulW (-4) (-1) := Bd.cmul (n := 3) (m := 1) .lit .lit
theorem tiny1 {r : Int} (hr : r = 0 ∨ r = 1 ∨ r = 2 ∨ r = 3 ∨ r = 4) {s : D} (m : s ∈ oneS r) (h : ∀ x, Q x) : tf__law_tiny ξ [s] Q := by
  rcases hr with rfl | rfl | rfl | rfl | rfl <;>
  · simp only [oneS, List.mem_cons, List.not_mem_nil, or_false] at m
    rcases m with rfl | rfl
    · exact ⟨c5, szN 0, ⟨rfl, rfl⟩, szN 2, szN 2, rfl, e_lkeys (p := (-1, 0)) (q := (0, 0)) (by decide) (by decide) fun a b _ _ => h _⟩
    · exact ⟨c5, szN 0, ⟨rfl, rfl⟩, szN 2, szN 2, rfl, e_lkeys (p := (1, 0)) (q := (0, 0)) (by decide) (by decide) fun a b _ _ => h _⟩
theorem tiny10_0p (h : ∀ x, Q x) : tf__law_tiny ξ [R5 1 (-1) 1 1 (-1)] Q := by
  refine ⟨c5, szN 0, ⟨rfl, rfl⟩, c5, szN _ (by decide), szN _ (by decide), szN _ (by decide), szN _ (by decide), szN _ (by decide), c5, ?_⟩
  exact ⟨m51, szN 2, m41, szN 2, rfl, e_lkeys (p := (5 * 1, 0)) (q := (-4 * 1, 0)) (by decide) (by decide) fun a b _ _ => h _⟩
theorem tiny10_0m (h : ∀ x, Q x) : tf__law_tiny ξ [R5 (-1) 1 (-1) (-1) 1] Q := by
  refine ⟨c5, szN 0, ⟨rfl, rfl⟩, c5, szN _ (by decide), szN _ (by decide), szN _ (by decide), szN _ (by decide), szN _ (by decide), c5, ?_⟩
  exact ⟨m52, szN 2, m42, szN 2, rfl, e_lkeys (p := (5 * (-1), 0)) (q := (-4 * (-1), 0)) (by decide) (by decide) fun a b _ _ => h _⟩
theorem tiny10_1p (h : ∀ x, Q x) : tf__law_tiny ξ [R5 (-1) 1 (-1) 1 1] Q := by
  refine ⟨c5, szN 0, ⟨rfl, rfl⟩, c5, szN _ (by decide), szN _ (by decide), szN _ (by decide), szN _ (by decide), szN _ (by decide), c5, ?_⟩
  exact ⟨m51, szN 2, m41, szN 2, rfl, e_lkeys (p := (5 * 1, 0)) (q := (-4 * 1, 0)) (by decide) (by decide) fun a b _ _ => h _⟩
theorem tiny10_1m (h : ∀ x, Q x) : tf__law_tiny ξ [R5 1 (-1) 1 (-1) (-1)] Q := by
  refine ⟨c5, szN 0, ⟨rfl, rfl⟩, c5, szN _ (by decide), szN _ (by decide), szN _ (by decide), szN _ (by decide), szN _ (by decide), c5, ?_⟩
  exact ⟨m52, szN 2, m42, szN 2, rfl, e_lkeys (p := (5 * (-1), 0)) (q := (-4 * (-1), 0)) (by decide) (by decide) fun a b _ _ => h _⟩
theorem tiny10_2p (h : ∀ x, Q x) : tf__law_tiny ξ [R5 1 (-1) 1 (-1) 1] Q := by
  refine ⟨c5, szN 0, ⟨rfl, rfl⟩, c5, szN _ (by decide), szN _ (by decide), szN _ (by decide), szN _ (by decide), szN _ (by decide), c5, ?_⟩
  exact ⟨m51, szN 2, m41, szN 2, rfl, e_lkeys (p := (5 * 1, 0)) (q := (-4 * 1, 0)) (by decide) (by decide) fun a b _ _ => h _⟩
theorem tiny10_2m (h : ∀ x, Q x) : tf__law_tiny ξ [R5 (-1) 1 (-1) 1 (-1)] Q := by
  refine ⟨c5, szN 0, ⟨rfl, rfl⟩, c5, szN _ (by decide), szN _ (by decide), szN _ (by decide), szN _ (by decide), szN _ (by decide), c5, ?_⟩
  exact ⟨m52, szN 2, m42, szN 2, rfl, e_lkeys (p := (5 * (-1), 0)) (q := (-4 * (-1), 0)) (by decide) (by decide) fun a b _ _ => h _⟩
theorem tiny10_3p (h : ∀ x, Q x) : tf__law_tiny ξ [R5 1 1 (-1) 1 (-1)] Q := by
  refine ⟨c5, szN 0, ⟨rfl, rfl⟩, c5, szN _ (by decide), szN _ (by decide), szN _ (by decide), szN _ (by decide), szN _ (by decide), c5, ?_⟩
  exact ⟨m51, szN 2, m41, szN 2, rfl, e_lkeys (p := (5 * 1, 0)) (q := (-4 * 1, 0)) (by decide) (by decide) fun a b _ _ => h _⟩
theorem tiny10_3m (h : ∀ x, Q x) : tf__law_tiny ξ [R5 (-1) (-1) 1 (-1) 1] Q := by
  refine ⟨c5, szN 0, ⟨rfl, rfl⟩, c5, szN _ (by decide), szN _ (by decide), szN _ (by decide), szN _ (by decide), szN _ (by decide), c5, ?_⟩
  exact ⟨m52, szN 2, m42, szN 2, rfl, e_lkeys (p := (5 * (-1), 0)) (q := (-4 * (-1), 0)) (by decide) (by decide) fun a b _ _ => h _⟩
theorem tiny10_4p (h : ∀ x, Q x) : tf__law_tiny ξ [R5 (-1) 1 1 (-1) 1] Q := by
  refine ⟨c5, szN 0, ⟨rfl, rfl⟩, c5, szN _ (by decide), szN _ (by decide), szN _ (by decide), szN _ (by decide), szN _ (by decide), c5, ?_⟩
  exact ⟨m51, szN 2, m41, szN 2, rfl, e_lkeys (p := (5 * 1, 0)) (q := (-4 * 1, 0)) (by decide) (by decide) fun a b _ _ => h _⟩
theorem tiny10_4m (h : ∀ x, Q x) : tf__law_tiny ξ [R5 1 (-1) (-1) 1 (-1)] Q := by
  refine ⟨c5, szN 0, ⟨rfl, rfl⟩, c5, szN _ (by decide), szN _ (by decide), szN _ (by decide), szN _ (by decide), szN _ (by decide), c5, ?_⟩
  exact ⟨m52, szN 2, m42, szN 2, rfl, e_lkeys (p := (5 * (-1), 0)) (q := (-4 * (-1), 0)) (by decide) (by decide) fun a b _ _ => h _⟩
theorem e_tiny {W : List D} (hW : Shp W) {s : D} (m : s ∈ sidesOf W) (h : ∀ x, Q x) : tf__law_tiny ξ [s] Q := by
  rcases hW with rfl | ⟨r, hr, rfl⟩ | hl
  · simp only [sidesOf, List.mem_cons, List.not_mem_nil, or_false] at m
    subst m
    exact tiny0 h
  · exact tiny1 hr m h
  · rw [sides_len hl] at m
    have m := mem_sort.mp m
    simp only [L10, List.mem_cons, List.not_mem_nil, or_false] at m
    rcases m with rfl | rfl | rfl | rfl | rfl | rfl | rfl | rfl | rfl | rfl
    · exact tiny10_0p h
    · exact tiny10_0m h
    · exact tiny10_1p h
    · exact tiny10_1m h
    · exact tiny10_2p h
    · exact tiny10_2m h
    · exact tiny10_3p h
    · exact tiny10_3m h
    · exact tiny10_4p h
    · exact tiny10_4m h
/-! ### the world -/
def WD1 : TDS := (dPar 1 2 (dCons (dCall 2 tf_draw (dCons (dVar 0) (dCons (dC (.int 5)) dNil))) (dCons (dCall 2 tf_draw (dCons (dVar 0) (dCons (dC (.int 8)) dNil))) dNil)))
def WD2 : TDS := (dAsg (dCall 2 tf__law_pick (dCons (dVar 0) (dCons (dTup (dCons (dC (.int 3)) (dCons (dC (.int 1)) (dCons (dC (.int 2)) (dCons (dC (.int 5)) (dCons (dC (.int 4)) (dCons (dC (.int 7)) (dCons (dC (.int 6)) (dCons (dC (.int 8)) (dCons (dC (.int 9)) (dCons (dC (.int 10)) (dCons (dC (.int 11)) (dCons (dC (.int 12)) (dCons (dC (.int 3)) (dCons (dC (.int 2)) (dCons (dC (.int 1)) (dCons (dC (.int 5)) dNil))))))))))))))))) dNil))) (dgName 3))
def WD3 : TDS := (dIfS (dTest (dBin gEq (dVar 2) (dC (.int 7)))) (dAsg (dBin gAddA (dC (.int 2)) (dCB gAbs (dCons (dCall 2 tf__law_integer (dCons (dVar 0) (dCons (dC (.int 10)) dNil))) dNil))) (dgName 3)) dNext)
def WD4 : TDS := (dOwn (lLst dNil) 4)
def WD5 : TDS := (dForR (dCons (dC (.int 2)) dNil) (dgName 5) (dSeq (dPar 6 7 (dCons (dCall 2 tf_draw (dCons (dVar 0) (dCons (dBin gPow (dC (.int 10)) (dC (.int 6))) dNil))) (dCons (dCall 2 tf_draw (dCons (dVar 0) (dCons (dBin gPow (dC (.int 10)) (dC (.int 6))) dNil))) dNil))) (dSeq (dIfS (dTest (dBin gGt (dVar 3) (dC (.int 100000)))) (dPar 6 7 (dCons (dCB gAbs (dCons (dCall 2 tf__law_integer (dCons (dVar 0) (dCons (dC (.int 10)) dNil))) dNil)) (dCons (dCB gAbs (dCons (dCall 2 tf__law_integer (dCons (dVar 0) (dCons (dC (.int 10)) dNil))) dNil)) dNil))) dNext) (dSeq (dPar 6 7 (dCons (dBin gSub (dBin gMod (dCB gInt (dCons (dVar 6) dNil)) (dBin gMulA (dC (.int 8)) (dVar 3))) (dBin gMulA (dC (.int 4)) (dVar 3))) (dCons (dBin gSub (dBin gMod (dCB gInt (dCons (dVar 7) dNil)) (dBin gMulA (dC (.int 8)) (dVar 3))) (dBin gMulA (dC (.int 4)) (dVar 3))) dNil))) (dSeq (dIfS (dtAnd (dTest (dBin gEq (dVar 5) (dC (.int 0)))) (dTest (dBin gEq (dVar 2) (dC (.int 1))))) (dPar 6 7 (dCons (dBin gMulA (dVar 3) (dBin gSub (dBin gMod (dCB gInt (dCons (dVar 6) dNil)) (dC (.int 7))) (dC (.int 3)))) (dCons (dBin gMulA (dVar 3) (dBin gSub (dBin gMod (dCB gInt (dCons (dVar 7) dNil)) (dC (.int 7))) (dC (.int 3)))) dNil))) dNext) (dSeq (dIfS (dTest (dBin gEq (dCall 2 tf_draw (dCons (dVar 0) (dCons (dC (.int 5)) dNil))) (dC (.int 0)))) (dPar 6 7 (dCons (dBin gAddA (dVar 6) (dBin gMulA (dVar 3) (dCall 2 tf__law_integer (dCons (dVar 0) (dCons (dC (.int 8)) dNil))))) (dCons (dBin gAddA (dVar 7) (dBin gMulA (dVar 3) (dCall 2 tf__law_integer (dCons (dVar 0) (dCons (dC (.int 8)) dNil))))) dNil))) dNext) (dApp 4 (dTup (dCons (dVar 6) (dCons (dVar 7) dNil))))))))))
def WD6 : TDS := (dAsg (dCall 3 tf__law_keys (dCons (dBin gIx (dVar 4) (dC (.int 0))) (dCons (dBin gIx (dVar 4) (dC (.int 1))) (dCons (dVar 1) dNil)))) (dgName 8))
def WD7 : TDS := (dAsg (dLcR (dCons (dC (.int 5)) dNil) 10 (dtAnd (dTest (dBin gEq (dBin gMod (dCB gInt (dCons (dBin gIx (dBin gIx (dVar 8) (dVar 10)) (dC (.int 0))) dNil)) (dVar 3)) (dC (.int 0)))) (dTest (dBin gEq (dBin gMod (dCB gInt (dCons (dBin gIx (dBin gIx (dVar 8) (dVar 10)) (dC (.int 1))) dNil)) (dVar 3)) (dC (.int 0))))) (dVar 10)) (dgName 9))
def WD8 : TDS := (dAsg (dCall 2 tf__law_pick (dCons (dVar 0) (dCons (dCall 1 tf__law_sides (dCons (dVar 9) dNil)) dNil))) (dgName 11))
def WD9 : TDS := (dRet (dDictN [.inr "d", .inr "keys", .inr "side", .inr "tiny"] [(dVar 3), (dVar 8), (dVar 11), (dCall 1 tf__law_tiny (dCons (dVar 11) dNil))]))
theorem WD_eq : T__law_world = (dSeq WD1 (dSeq WD2 (dSeq WD3 (dSeq WD4 (dSeq WD5 (dFreeze 4 (dSeq WD6 (dSeq WD7 (dSeq WD8 WD9))))))))) := rfl
end K08
set_option Elab.async false
set_option linter.all false
set_option maxHeartbeats 1000000
set_option maxRecDepth 100000
namespace K08
open PySem PySem.Spec L2 DL
variable {ξ : XT} {Q : D → Prop}
def WO1 : TDS := (dPar 6 7 (dCons (dCall 2 tf_draw (dCons (dVar 0) (dCons (dBin gPow (dC (.int 10)) (dC (.int 6))) dNil))) (dCons (dCall 2 tf_draw (dCons (dVar 0) (dCons (dBin gPow (dC (.int 10)) (dC (.int 6))) dNil))) dNil)))
def WO2 : TDS := (dIfS (dTest (dBin gGt (dVar 3) (dC (.int 100000)))) (dPar 6 7 (dCons (dCB gAbs (dCons (dCall 2 tf__law_integer (dCons (dVar 0) (dCons (dC (.int 10)) dNil))) dNil)) (dCons (dCB gAbs (dCons (dCall 2 tf__law_integer (dCons (dVar 0) (dCons (dC (.int 10)) dNil))) dNil)) dNil))) dNext)
def WO3 : TDS := (dPar 6 7 (dCons (dBin gSub (dBin gMod (dCB gInt (dCons (dVar 6) dNil)) (dBin gMulA (dC (.int 8)) (dVar 3))) (dBin gMulA (dC (.int 4)) (dVar 3))) (dCons (dBin gSub (dBin gMod (dCB gInt (dCons (dVar 7) dNil)) (dBin gMulA (dC (.int 8)) (dVar 3))) (dBin gMulA (dC (.int 4)) (dVar 3))) dNil)))
def WO4 : TDS := (dIfS (dtAnd (dTest (dBin gEq (dVar 5) (dC (.int 0)))) (dTest (dBin gEq (dVar 2) (dC (.int 1))))) (dPar 6 7 (dCons (dBin gMulA (dVar 3) (dBin gSub (dBin gMod (dCB gInt (dCons (dVar 6) dNil)) (dC (.int 7))) (dC (.int 3)))) (dCons (dBin gMulA (dVar 3) (dBin gSub (dBin gMod (dCB gInt (dCons (dVar 7) dNil)) (dC (.int 7))) (dC (.int 3)))) dNil))) dNext)
def WO5 : TDS := (dIfS (dTest (dBin gEq (dCall 2 tf_draw (dCons (dVar 0) (dCons (dC (.int 5)) dNil))) (dC (.int 0)))) (dPar 6 7 (dCons (dBin gAddA (dVar 6) (dBin gMulA (dVar 3) (dCall 2 tf__law_integer (dCons (dVar 0) (dCons (dC (.int 8)) dNil))))) (dCons (dBin gAddA (dVar 7) (dBin gMulA (dVar 3) (dCall 2 tf__law_integer (dCons (dVar 0) (dCons (dC (.int 8)) dNil))))) dNil))) dNext)
def WO6 : TDS := (dApp 4 (dTup (dCons (dVar 6) (dCons (dVar 7) dNil))))
abbrev WOB : TDS := (dSeq WO1 (dSeq WO2 (dSeq WO3 (dSeq WO4 (dSeq WO5 WO6)))))
/- dForR (dCons (dC (.int 2)) dNil) (dgName 5) -/
abbrev EW (s1 s2 s3 s4 s5 s6 s7 s8 s9 s10 s11 : DL.Slot) : SE := [.d .deck, s1, s2, s3, s4, s5, s6, s7, s8, s9, s10, s11]
theorem pw6 : CPow 10 6 := ⟨by decide, by decide, by decide⟩
theorem sqA {x : Int} : (if x < 0 then -x else x) = (x.natAbs : Int) := by split <;> omega
section
variable {De : DEnds} {ζ : XW} {U : TDS} {d turn way a b : Int} {s1 s2 s3 s4 s5 s6 s7 s8 s9 s10 s11 : DL.Slot} {l : List D}
theorem wo1 (h : ∀ a b : Int, Bd 20 a → Bd 20 b → U ζ De (EW s1 s2 s3 s4 s5 (.d (.int a)) (.d (.int b)) s8 s9 s10 s11)) : dSeq WO1 U ζ De (EW s1 s2 s3 s4 s5 s6 s7 s8 s9 s10 s11) := by
  refine ⟨pw6, rfl, e_draw (by decide) (by decide) fun r r0 r1 => ⟨pw6, rfl, e_draw (by decide) (by decide) fun r' r0' r1' => ?_⟩⟩
  have e : (10 : Int) ^ (6 : Int).toNat = 1000000 := rfl
  rw [e] at r1 r1'
  exact h r r' (by unfold Bd; omega) (by unfold Bd; omega)
theorem bd_abs {n : Nat} {x : Int} (h : Bd n x) : Bd n (if x < 0 then -x else x) := by
  split
  · exact h.neg
  · exact h
theorem wo2 (ha : Bd 200 a) (hb : Bd 200 b) (h : ∀ a b : Int, Bd 200 a → Bd 200 b → U ζ De (EW s1 s2 (.d (.int d)) s4 s5 (.d (.int a)) (.d (.int b)) s8 s9 s10 s11)) : dSeq WO2 U ζ De (EW s1 s2 (.d (.int d)) s4 s5 (.d (.int a)) (.d (.int b)) s8 s9 s10 s11) := by
  refine ifd (fun _ => ?_) (fun _ => ?_)
  · exact ⟨rfl, e_integer (k := 10) (by decide) (by decide) fun x hx => ⟨rfl, e_integer (k := 10) (by decide) (by decide) fun y hy => h _ _ (bd_abs hx) (bd_abs hy)⟩⟩
  · exact h a b ha hb
theorem wo3 (hd : 1 ≤ d) (bd : Bd 202 d) (h : ∀ a b : Int, Bd 206 a → Bd 206 b → U ζ De (EW s1 s2 (.d (.int d)) s4 s5 (.d (.int a)) (.d (.int b)) s8 s9 s10 s11)) : dSeq WO3 U ζ De (EW s1 s2 (.d (.int d)) s4 s5 (.d (.int a)) (.d (.int b)) s8 s9 s10 s11) := by
  have c8 : CMulW 8 d := Bd.cmul (n := 4) .lit bd
  have c4 : CMulW 4 d := Bd.cmul (n := 3) .lit bd
  have p8 : 0 < 8 * d := by omega
  have z : ∀ x : Int, Bd 206 (x % (8 * d) - 4 * d) := fun x => by
    have h0 := Int.emod_nonneg x (by omega : 8 * d ≠ 0)
    have h1 := Int.emod_lt_of_pos x p8
    have b4 : Bd 206 (4 * d) := (Bd.mul (n := 3) .lit bd).mono (by decide)
    refine b4.of_le ?_
    omega
  exact ⟨c8, p8, c4, c8, p8, c4, h _ _ (z a) (z b)⟩
theorem wo4 (hd : 1 ≤ d) (bd : Bd 202 d) (ha : Bd 206 a) (hb : Bd 206 b) (h : ∀ a b : Int, Bd 206 a → Bd 206 b → U ζ De (EW s1 (.d (.int way)) (.d (.int d)) s4 (.d (.int turn)) (.d (.int a)) (.d (.int b)) s8 s9 s10 s11)) : dSeq WO4 U ζ De (EW s1 (.d (.int way)) (.d (.int d)) s4 (.d (.int turn)) (.d (.int a)) (.d (.int b)) s8 s9 s10 s11) := by
  have h07 : (0 : Int) < 7 := by decide
  have z : ∀ x : Int, Bd 3 (x % 7 - 3) := fun x => by unfold Bd; omega
  refine ifd (fun _ => ?_) (fun _ => h a b ha hb)
  refine ifd (fun _ => ?_) (fun _ => h a b ha hb)
  exact ⟨h07, bd.cmul (z a), h07, bd.cmul (z b), h _ _ ((bd.mul (z a)).mono (by decide)) ((bd.mul (z b)).mono (by decide))⟩
theorem wo5 (bd : Bd 202 d) (ha : Bd 206 a) (hb : Bd 206 b) (h : ∀ a b : Int, Bd 364 a → Bd 364 b → U ζ De (EW s1 s2 (.d (.int d)) s4 s5 (.d (.int a)) (.d (.int b)) s8 s9 s10 s11)) : dSeq WO5 U ζ De (EW s1 s2 (.d (.int d)) s4 s5 (.d (.int a)) (.d (.int b)) s8 s9 s10 s11) := by
  refine ⟨rfl, e_draw (by decide) (by decide) fun r r0 r1 => ?_⟩
  refine ifd (fun _ => ?_) (fun _ => h a b (ha.mono (by decide)) (hb.mono (by decide)))
  refine ⟨rfl, e_integer (k := 8) (by decide) (by decide) fun x hx => ⟨bd.cmul hx, rfl, e_integer (k := 8) (by decide) (by decide) fun y hy => ⟨bd.cmul hy, h _ _ ?_ ?_⟩⟩⟩
  · exact ((ha.mono (m := 363) (by decide)).add ((bd.mul hx).mono (by decide)))
  · exact ((hb.mono (m := 363) (by decide)).add ((bd.mul hy).mono (by decide)))
theorem wo6 {n : Nat} (hl : l.length = n) (hn : n < 1000) (h : De.nx (EW s1 s2 s3 (.own (l ++ [tp (a, b)])) s5 (.d (.int a)) (.d (.int b)) s8 s9 s10 s11)) : WO6 ζ De (EW s1 s2 s3 (.own l) s5 (.d (.int a)) (.d (.int b)) s8 s9 s10 s11) :=
  ⟨szN 2, by rw [hl]; exact szL _ hn, h⟩
theorem wob {n : Nat} (hd : 1 ≤ d) (bd : Bd 202 d) (hl : l.length = n) (hn : n < 1000) (h : ∀ p : Pr, Bp 364 p → ∀ s6 s7, De.nx (EW s1 (.d (.int way)) (.d (.int d)) (.own (l ++ [tp p])) (.d (.int turn)) s6 s7 s8 s9 s10 s11)) : WOB ζ De (EW s1 (.d (.int way)) (.d (.int d)) (.own l) (.d (.int turn)) s6 s7 s8 s9 s10 s11) := by
  refine wo1 fun a b ha hb => ?_
  refine wo2 (ha.mono (by decide)) (hb.mono (by decide)) fun a b _ _ => ?_
  refine wo3 hd bd fun a b ha hb => ?_
  refine wo4 hd bd ha hb fun a b ha hb => ?_
  refine wo5 bd ha hb fun a b ha hb => ?_
  exact wo6 hl hn (h (a, b) ⟨ha, hb⟩ _ _)
/-- the lines of the world -/
theorem wd1 (h : ∀ at_ way : Int, 0 ≤ at_ → at_ < 5 → U ζ De (EW (.d (.int at_)) (.d (.int way)) s3 s4 s5 s6 s7 s8 s9 s10 s11)) : dSeq WD1 U ζ De (EW s1 s2 s3 s4 s5 s6 s7 s8 s9 s10 s11) :=
  ⟨rfl, e_draw (by decide) (by decide) fun r r0 r1 => ⟨rfl, e_draw (by decide) (by decide) fun w _ _ => h r w r0 r1⟩⟩
theorem wd2 (h : ∀ d : Int, 1 ≤ d → Bd 4 d → U ζ De (EW s1 s2 (.d (.int d)) s4 s5 s6 s7 s8 s9 s10 s11)) : dSeq WD2 U ζ De (EW s1 s2 s3 s4 s5 s6 s7 s8 s9 s10 s11) := by
  refine ⟨szN 16, rfl, e_pickT (by show 0 < 16; decide) (by show 16 < 1000000000; decide) fun d m => ?_⟩
  simp only [List.mem_cons, List.not_mem_nil, or_false] at m
  rcases m with rfl | rfl | rfl | rfl | rfl | rfl | rfl | rfl | rfl | rfl | rfl | rfl | rfl | rfl | rfl | rfl <;> exact h _ (by decide) (.lit (by decide))
theorem wd3 (hd : 1 ≤ d) (bd : Bd 4 d) (h : ∀ d : Int, 1 ≤ d → Bd 202 d → U ζ De (EW s1 (.d (.int way)) (.d (.int d)) s4 s5 s6 s7 s8 s9 s10 s11)) : dSeq WD3 U ζ De (EW s1 (.d (.int way)) (.d (.int d)) s4 s5 s6 s7 s8 s9 s10 s11) := by
  refine ifd (fun _ => ?_) (fun _ => h d hd (bd.mono (by decide)))
  refine ⟨rfl, e_integer (k := 10) (by decide) (by decide) fun x hx => h _ ?_ ?_⟩
  · show 1 ≤ 2 + (if x < 0 then -x else x)
    split <;> omega
  · exact ((Bd.mono (n := 2) (.lit (by decide)) (by decide) : Bd 201 2).add ((bd_abs hx).mono (by decide)))
theorem wd4 (h : U ζ De (EW s1 s2 s3 (.own []) s5 s6 s7 s8 s9 s10 s11)) : dSeq WD4 U ζ De (EW s1 s2 s3 s4 s5 s6 s7 s8 s9 s10 s11) := ⟨szN 0, h⟩
theorem wd5 (hd : 1 ≤ d) (bd : Bd 202 d) (h : ∀ p q : Pr, Bp 364 p → Bp 364 q → ∀ s5 s6 s7, U ζ De (EW s1 (.d (.int way)) (.d (.int d)) (.own [tp p, tp q]) s5 s6 s7 s8 s9 s10 s11)) : dSeq WD5 U ζ De (EW s1 (.d (.int way)) (.d (.int d)) (.own []) s5 s6 s7 s8 s9 s10 s11) := by
  refine ⟨⟨by decide, by decide⟩, ?_⟩
  show forD (dgName 5) WOB ζ { De with nx := U ζ De } [.int 0, .int 1] _
  refine for_cons (wob (n := 0) hd bd rfl (by decide) fun p hp _ _ => ?_)
  dsimp only
  refine for_cons (wob (n := 1) (l := [] ++ [tp p]) hd bd rfl (by decide) fun q hq _ _ => ?_)
  exact h p q hp hq _ _ _
theorem wd6 {at_ : Int} {p q : Pr} (h0 : 0 ≤ at_) (h5 : at_ < 5) (hp : Bp 364 p) (hq : Bp 364 q) (h : ∀ a b : Pr, Bp 370 a → Bp 370 b → U ζ De (EW (.d (.int at_)) s2 s3 (.d (.lst [tp p, tp q])) s5 s6 s7 (.d (.lst ((five a b).map tp))) s9 s10 s11)) : dSeq WD6 U ζ De (EW (.d (.int at_)) s2 s3 (.d (.lst [tp p, tp q])) s5 s6 s7 s8 s9 s10 s11) := by
  have b := bp_five hp hq
  exact ⟨rfl, e_lkeys h0 h5 fun x y hx hy => h x y (b x hx) (b y hy)⟩
theorem wd7 {p q : Pr} (hd : 1 ≤ d) (h : U ζ De (EW s1 s2 (.d (.int d)) s4 s5 s6 s7 (.d (.lst ((five p q).map tp))) (.d (.lst (wh d (five p q)))) s10 s11)) : dSeq WD7 U ζ De (EW s1 s2 (.d (.int d)) s4 s5 s6 s7 (.d (.lst ((five p q).map tp))) s9 s10 s11) := by
  have d0 : 0 < d := by omega
  refine ⟨c5, ?_⟩
  refine lc_filter (f := hwAt d (five p q)) (g := id) ?_ ?_ ?_
  · rw [i5]
    have key : ∀ (x : Pr) (K : Bool → Prop), K (hw d x) → (if decide (x.1 % d = 0) = true then 0 < d ∧ K (decide (x.2 % d = 0)) else K false) := fun x K k => by
      unfold hw at k
      cases e : decide (x.1 % d = 0) with
      | true => rw [e] at k; exact ⟨d0, k⟩
      | false => rw [e] at k; exact k
    exact five5 (fun K k => ⟨d0, key _ K k⟩) (fun K k => ⟨d0, key _ K k⟩) (fun K k => ⟨d0, key _ K k⟩) (fun K k => ⟨d0, key _ K k⟩) (fun K k => ⟨d0, key _ K k⟩)
  · rw [i5]
    exact five5 (fun K k => k) (fun K k => k) (fun K k => k) (fun K k => k) (fun K k => k)
  · rw [List.map_id]
    exact h
theorem sides_lens {W : List D} (hW : Shp W) : 0 < (sidesOf W).length ∧ (sidesOf W).length < 1000000000 := by
  rcases hW with rfl | ⟨r, hr, rfl⟩ | hl
  · exact ⟨by decide, by decide⟩
  · rcases hr with rfl | rfl | rfl | rfl | rfl <;> exact ⟨by decide, by decide⟩
  · rw [sides_len hl]
    have e : (sortD L10).length = 10 := List.length_mergeSort L10
    rw [e]
    exact ⟨by decide, by decide⟩
theorem wd8 {p q : Pr} (h : ∀ s ∈ sidesOf (wh d (five p q)), U ζ De (EW s1 s2 s3 s4 s5 s6 s7 s8 (.d (.lst (wh d (five p q)))) s10 (.d s))) : dSeq WD8 U ζ De (EW s1 s2 s3 s4 s5 s6 s7 s8 (.d (.lst (wh d (five p q)))) s10 s11) := by
  have sh : Shp (wh d (five p q)) := shp_filter _
  have l := sides_lens sh
  exact ⟨rfl, e_lsides sh ⟨rfl, e_pick l.1 l.2 fun s m => h s m⟩⟩
abbrev WV (d : Int) (p q : Pr) (s x : D) : D := .dct [.inr "d", .inr "keys", .inr "side", .inr "tiny"] [.int d, .lst ((five p q).map tp), s, x]
theorem wd9 {p q : Pr} {s : D} (m : s ∈ sidesOf (wh d (five p q))) (h : ∀ x, De.rt (WV d p q s x)) : WD9 ζ De (EW s1 s2 (.d (.int d)) s4 s5 s6 s7 (.d (.lst ((five p q).map tp))) s9 s10 (.d s)) :=
  ⟨rfl, e_tiny (shp_filter _) m fun x => h x⟩
end
theorem e_world (h : ∀ (d : Int) (p q : Pr) (s x : D), Kb 370 d p → Kb 370 d q → s ∈ sidesOf (wh d (five p q)) → Q (WV d p q s x)) : tf__law_world ξ [.deck] Q := by
  show T__law_world (fun _ _ => False) { nx := fun _ => Q .non, rt := Q } (EW .un .un .un .un .un .un .un .un .un .un .un)
  rw [WD_eq]
  refine wd1 fun at_ way h0 h5 => ?_
  refine wd2 fun d hd bd => ?_
  refine wd3 hd bd fun d hd bd => ?_
  refine wd4 ?_
  refine wd5 hd bd fun p q hp hq s5 s6 s7 => ?_
  show dSeq WD6 _ _ _ _
  refine wd6 h0 h5 hp hq fun a b ha hb => ?_
  refine wd7 hd ?_
  refine wd8 fun s m => ?_
  exact wd9 m fun x => h d a b s x ⟨ha, bd.mono (by decide), hd⟩ ⟨hb, bd.mono (by decide), hd⟩ m
end K08
set_option Elab.async false
set_option linter.all false
set_option maxHeartbeats 1000000
set_option maxRecDepth 100000
namespace K08
open PySem PySem.Spec L2 DL
variable {ξ : XT} {Q : D → Prop}
def GR1 : TDS := (dAsg (dCall 1 tf__law_world (dCons (dVar 0) dNil)) (dgName 1))
def GR2 : TDS := (dAsg (dTup (dCons (dKey (dVar 1) "d") (dCons (dKey (dVar 1) "keys") (dCons (dKey (dVar 1) "side") dNil)))) (dgTup 3 (dgCons (dgName 2) (dgCons (dgName 3) (dgCons (dgName 4) dgNil)))))
def GR3 : TDS := (dAsg (dMk 3 [] tf_Floor_init (dCons (dTup (dCons (dBin gIx (dBin gIx (dVar 3) (dC (.int 0))) (dC (.int 0))) (dCons (dBin gIx (dBin gIx (dVar 3) (dC (.int 0))) (dC (.int 1))) (dCons (dVar 2) dNil)))) (dCons (dTup (dCons (dBin gIx (dBin gIx (dVar 3) (dC (.int 1))) (dC (.int 0))) (dCons (dBin gIx (dBin gIx (dVar 3) (dC (.int 1))) (dC (.int 1))) (dCons (dVar 2) dNil)))) (dCons (dVar 4) dNil)))) (dgName 5))
def GR4 : TDS := (dAsg (dBin gSub (dCall 2 tf_draw (dCons (dVar 0) (dCons (dC (.int 25)) dNil))) (dC (.int 12))) (dgName 6))
def GR5 : TDS := (dIfS (dTest (dBin gEq (dCall 2 tf_draw (dCons (dVar 0) (dCons (dC (.int 8)) dNil))) (dC (.int 0)))) (dAsg (dCall 2 tf__law_pick (dCons (dVar 0) (dCons (dTup (dCons (dC (.int 400)) (dCons (dUn gNeg (dC (.int 400))) (dCons (dC (.int 399)) (dCons (dUn gNeg (dC (.int 399))) (dCons (dBin gSub (dCall 2 tf_draw (dCons (dVar 0) (dCons (dC (.int 801)) dNil))) (dC (.int 400))) (dCons (dBin gSub (dCall 2 tf_draw (dCons (dVar 0) (dCons (dC (.int 81)) dNil))) (dC (.int 40))) dNil))))))) dNil))) (dgName 6)) dNext)
def GR6 : TDS := (dAsg (dCall 1 tf__law_power (dCons (dVar 6) dNil)) (dgTup 2 (dgCons (dgName 7) (dgCons (dgName 8) dgNil))))
def GR7 : TDS := (dAsg (dIf (dTest (dBin gEq (dBin gMod (dCB gInt (dCons (dVar 6) dNil)) (dC (.int 2))) (dC (.int 0)))) (dC (.int 1)) (dUn gNeg (dC (.int 1)))) (dgName 9))
def GR8 : TDS := (dAsg (dTup (dCons (dCB gTuple (dCons (dLcA (dVar 3) [11, 12] (dgTup 2 (dgCons (dgName 11) (dgCons (dgName 12) dgNil))) dYes (dCall 3 tf__law_times (dCons (dTup (dCons (dVar 11) (dCons (dVar 12) (dCons (dVar 2) dNil)))) (dCons (dBin gMulA (dVar 9) (dVar 7)) (dCons (dBin gMulA (dVar 9) (dVar 8)) dNil))))) dNil)) (dCons (dCB gTuple (dCons (dLcV 4 13 dYes (dBin gMulA (dVar 9) (dVar 13))) dNil)) dNil))) (dgName 10))
def GR9 : TDS := (dAsg (dCallX 2 tf_gathered_times (dCons (dVar 5) (dCons (dVar 6) dNil))) (dgName 14))
def GR10 : TDS := (dIfS (dtOr (dtNot (dTest (dCall 2 tf__law_same (dCons (dTup (dCons (dUn (gFld "all_keys") (dVar 14)) (dCons (dUn (gFld "side") (dVar 14)) dNil))) (dCons (dVar 10) dNil))))) (dtNot (dTest (dBin (gEqI "Floor" tf_Floor_eq) (dVar 14) (dMk 3 [] tf_Floor_init (dCons (dBin gIx (dBin gIx (dVar 10) (dC (.int 0))) (dC (.int 0))) (dCons (dBin gIx (dBin gIx (dVar 10) (dC (.int 0))) (dC (.int 1))) (dCons (dBin gIx (dVar 10) (dC (.int 1))) dNil)))))))) (dRet (dC (.bl false))) dNext)
def GR11 : TDS := (dIfS (dtNot (dTest (dCall 2 tf__law_same (dCons (dCallX 1 tf_whole_keys (dCons (dVar 14) dNil)) (dCons (dCB gTuple (dCons (dLcR (dCons (dC (.int 5)) dNil) 15 (dtAnd (dTest (dBin gEq (dBin gMod (dCB gInt (dCons (dBin gIx (dBin gIx (dVar 3) (dVar 15)) (dC (.int 0))) dNil)) (dVar 2)) (dC (.int 0)))) (dTest (dBin gEq (dBin gMod (dCB gInt (dCons (dBin gIx (dBin gIx (dVar 3) (dVar 15)) (dC (.int 1))) dNil)) (dVar 2)) (dC (.int 0))))) (dVar 15)) dNil)) dNil))))) (dRet (dC (.bl false))) dNext)
def GR12 : TDS := (dIfS (dtOr (dtNot (dTest (dBin (gEqI "Floor" tf_Floor_eq) (dCallKX 2 2 [1, 0] tf_gathered_times (dCons (dUn gNeg (dVar 6)) (dCons (dVar 14) dNil))) (dVar 5)))) (dtNot (dTest (dBin (gEqI "Floor" tf_Floor_eq) (dCallX 1 tf_cut_floor (dCons (dCallX 1 tf_gathered (dCons (dVar 5) dNil)) dNil)) (dVar 5))))) (dRet (dC (.bl false))) dNext)
def GR13 : TDS := (dIfS (dTest (dBin gGt (dCB gAbs (dCons (dVar 6) dNil)) (dC (.int 40)))) (dRet (dC (.bl true))) dNext)
def GR14 : TDS := (dIfS (dtNot (dTest (dBin (gEqI "Floor" tf_Floor_eq) (dCallX 1 tf_gathered (dCons (dVar 14) dNil)) (dCallX 2 tf_gathered_times (dCons (dVar 5) (dCons (dBin gAddA (dVar 6) (dC (.int 1))) dNil)))))) (dRet (dC (.bl false))) dNext)
def GR15 : TDS := (dIfS (dtNot (dTest (dBin (gEqI "Floor" tf_Floor_eq) (dCallKX 1 1 [0] tf_cut_floor (dCons (dVar 14) dNil)) (dCallX 2 tf_gathered_times (dCons (dVar 5) (dCons (dBin gSub (dVar 6) (dC (.int 1))) dNil)))))) (dRet (dC (.bl false))) dNext)
def GR16 : TDS := (dRet (dC (.bl true)))
theorem GR_eq : T__law_are_gathered_right = (dSeq GR1 (dSeq GR2 (dSeq GR3 (dSeq GR4 (dSeq GR5 (dSeq GR6 (dSeq GR7 (dSeq GR8 (dSeq GR9 (dSeq GR10 (dSeq GR11 (dSeq GR12 (dSeq GR13 (dSeq GR14 (dSeq GR15 GR16))))))))))))))) := rfl
/-! ### gathered floors are right -/
theorem gb_row {W : List D} (hW : Shp W) : ∀ s ∈ sidesOf W, Gb 30000 1 s := by
  have g : ∀ {i : Int}, i.natAbs ≤ 1 → Gb 4000 0 (.int i) := fun h => gb_int (Bd.mono (n := 1) (by unfold Bd; omega) (by decide))
  have r : ∀ a b c d e : Int, a.natAbs ≤ 1 → b.natAbs ≤ 1 → c.natAbs ≤ 1 → d.natAbs ≤ 1 → e.natAbs ≤ 1 → Gb 30000 1 (R5 a b c d e) := fun a b c d e h1 h2 h3 h4 h5 => (gb_tup (ds := [.int a, .int b, .int c, .int d, .int e]) (n := 5) (w := 4000) (k := 0) (by
    simp only [List.mem_cons, List.not_mem_nil, or_false, forall_eq_or_imp, forall_eq]
    exact ⟨g h1, g h2, g h3, g h4, g h5⟩) (Nat.le_refl 5)).mono
  rcases hW with rfl | ⟨x, hx, rfl⟩ | hl
  · intro s m
    simp only [sidesOf, List.mem_cons, List.not_mem_nil, or_false] at m
    subst m
    exact r _ _ _ _ _ (by decide) (by decide) (by decide) (by decide) (by decide)
  · intro s m
    rcases hx with rfl | rfl | rfl | rfl | rfl <;>
    · simp only [sidesOf, oneS, List.mem_cons, List.not_mem_nil, or_false] at m
      rcases m with rfl | rfl <;> exact r _ _ _ _ _ (by decide) (by decide) (by decide) (by decide) (by decide)
  · intro s m
    rw [sides_len hl] at m
    have m := mem_sort.mp m
    simp only [L10, List.mem_cons, List.not_mem_nil, or_false] at m
    rcases m with rfl | rfl | rfl | rfl | rfl | rfl | rfl | rfl | rfl | rfl <;> exact r _ _ _ _ _ (by decide) (by decide) (by decide) (by decide) (by decide)
theorem gb_kd {N : Nat} {d : Int} {p q : Pr} (h0 : Kb N d p) (h1 : Kb N d q) (l : N ≤ 3000) : Gb 66000 2 (.tup (kd d (five p q))) := by
  have b := bp_five h0.bp h1.bp
  refine (gb_tup (ds := kd d (five p q)) (n := 5) (w := 13000) (k := 1) ?_ (Nat.le_refl 5)).mono
  intro x m
  obtain ⟨k, hk, rfl⟩ := List.mem_map.mp m
  exact gb_lo ((b k hk).h1.mono (by omega)) ((b k hk).h2.mono (by omega)) (h0.bd.mono (by omega)) h0.p
theorem fn1 (n : Int) : (gfn n).1 = sg n * (pw n).1 := by
  unfold gfn
  simp only [ml]
  grind
theorem fn2 (n : Int) : (gfn n).2 = sg n * (pw n).2 := by
  unfold gfn
  simp only [ml]
  grind
abbrev EG (w : DL.Slot) (d : Int) (p q : Pr) (s : D) (s5 s6 s7 s8 s9 s10 s11 s12 s13 s14 s15 : DL.Slot) : SE := [.d .deck, w, .d (.int d), .d (.lst ((five p q).map tp)), .d s, s5, s6, s7, s8, s9, s10, s11, s12, s13, s14, s15]
section
variable {De : DEnds} {ζ : XW} {U : TDS} {d n : Int} {p q : Pr} {s : D} {w s2 s3 s4 s5 s6 s7 s8 s9 s10 s11 s12 s13 s14 s15 : DL.Slot}
theorem gr1 {s1 : DL.Slot} (h : ∀ (d : Int) (p q : Pr) (s x : D), Kb 370 d p → Kb 370 d q → s ∈ sidesOf (wh d (five p q)) → U ζ De [.d .deck, .d (WV d p q s x), s2, s3, s4, s5, s6, s7, s8, s9, s10, s11, s12, s13, s14, s15]) : dSeq GR1 U ζ De [.d .deck, s1, s2, s3, s4, s5, s6, s7, s8, s9, s10, s11, s12, s13, s14, s15] := ⟨rfl, e_world h⟩
theorem gr2 {x : D} (h : U ζ De (EG (.d (WV d p q s x)) d p q s s5 s6 s7 s8 s9 s10 s11 s12 s13 s14 s15)) : dSeq GR2 U ζ De [.d .deck, .d (WV d p q s x), s2, s3, s4, s5, s6, s7, s8, s9, s10, s11, s12, s13, s14, s15] := ⟨szN 3, rfl, h⟩
theorem gr3 (h0 : Kb 370 d p) (h1 : Kb 370 d q) (m : s ∈ sidesOf (wh d (five p q))) (h : U ζ De (EG w d p q s (.d (FV d p q s)) s6 s7 s8 s9 s10 s11 s12 s13 s14 s15)) : dSeq GR3 U ζ De (EG w d p q s s5 s6 s7 s8 s9 s10 s11 s12 s13 s14 s15) :=
  ⟨szN 3, szN 3, rfl, e_init ⟨h0.bp.h1, h0.bp.h2, h0.bd, h0.p⟩ ⟨h1.bp.h1, h1.bp.h2, h1.bd, h1.p⟩ Rl.refl Rl.refl h0 h1 (by decide) m h⟩
theorem gr4 (h : ∀ n : Int, n.natAbs ≤ 400 → U ζ De (EG w d p q s s5 (.d (.int n)) s7 s8 s9 s10 s11 s12 s13 s14 s15)) : dSeq GR4 U ζ De (EG w d p q s s5 s6 s7 s8 s9 s10 s11 s12 s13 s14 s15) :=
  ⟨rfl, e_draw (by decide) (by decide) fun r r0 r1 => h _ (by omega)⟩
theorem gr5 (hn : n.natAbs ≤ 400) (h : ∀ n : Int, n.natAbs ≤ 400 → U ζ De (EG w d p q s s5 (.d (.int n)) s7 s8 s9 s10 s11 s12 s13 s14 s15)) : dSeq GR5 U ζ De (EG w d p q s s5 (.d (.int n)) s7 s8 s9 s10 s11 s12 s13 s14 s15) := by
  refine ⟨rfl, e_draw (by decide) (by decide) fun r r0 r1 => ?_⟩
  refine ifd (fun _ => ?_) (fun _ => h n hn)
  refine ⟨rfl, e_draw (by decide) (by decide) fun x x0 x1 => ⟨rfl, e_draw (by decide) (by decide) fun y y0 y1 => ⟨szN 6, rfl, e_pickT (by show 0 < 6; decide) (by show 6 < 1000000000; decide) fun d m => ?_⟩⟩⟩
  simp only [List.mem_cons, List.not_mem_nil, or_false] at m
  rcases m with rfl | rfl | rfl | rfl | rfl | rfl
  · exact h _ (by decide)
  · exact h (-400) (by decide)
  · exact h _ (by decide)
  · exact h (-399) (by decide)
  · exact h (x - 400) (by omega)
  · exact h (y - 40) (by omega)
theorem gr6 (hn : n.natAbs ≤ 400) (h : U ζ De (EG w d p q s s5 (.d (.int n)) (.d (.int (pw n).1)) (.d (.int (pw n).2)) s9 s10 s11 s12 s13 s14 s15)) : dSeq GR6 U ζ De (EG w d p q s s5 (.d (.int n)) s7 s8 s9 s10 s11 s12 s13 s14 s15) :=
  ⟨rfl, e_lpower (by omega) ⟨rfl, h⟩⟩
theorem gr7 (h : U ζ De (EG w d p q s s5 (.d (.int n)) s7 s8 (.d (.int (sg n))) s10 s11 s12 s13 s14 s15)) : dSeq GR7 U ζ De (EG w d p q s s5 (.d (.int n)) s7 s8 s9 s10 s11 s12 s13 s14 s15) := by
  refine ⟨(by show (0 : Int) < 2; decide), ?_⟩
  refine ifd (fun e => ?_) (fun e => ?_)
  · have e : n % 2 = 0 := e
    rw [sg_even e] at h
    exact h
  · have e : ¬ n % 2 = 0 := e
    rw [sg_odd e] at h
    exact h
abbrev DU (d n : Int) (p q : Pr) (s : D) : D := .tup [.tup (kd d (five (ml (gfn n) p) (ml (gfn n) q))), sd n s]
theorem lt_key (h : Kb 376 d p) (hn : n.natAbs ≤ 400) (P : D → Prop) (k : P (LO (ml (gfn n) p) d)) : CMulW (sg n) (pw n).1 ∧ CMulW (sg n) (pw n).2 ∧ 3 = 3 ∧ tf__law_times (fun _ => False) [T3 p.1 p.2 d, .int (sg n * (pw n).1), .int (sg n * (pw n).2)] P := by
  have b := bd_pw (n := n) hn
  have s1 : Bd 1 (sg n) := by rcases sg_or n with e | e <;> rw [e] <;> exact .lit
  refine ⟨s1.cmul b.1, s1.cmul b.2, rfl, ?_⟩
  rw [← fn1, ← fn2]
  have f := bd_fn hn
  refine e_ltimes h.bp.h1 h.bp.h2 h.bd h.p f.h1 f.h2 (by decide) (by decide) ?_
  rw [ml_comm] at k
  exact k
theorem gr8 (h0 : Kb 370 d p) (h1 : Kb 370 d q) (hn : n.natAbs ≤ 400) (hs : ∃ a b c x e : Int, s = R5 a b c x e ∧ Bd 4 a ∧ Bd 4 b ∧ Bd 4 c ∧ Bd 4 x ∧ Bd 4 e) (h : U ζ De (EG w d p q s s5 (.d (.int n)) (.d (.int (pw n).1)) (.d (.int (pw n).2)) (.d (.int (sg n))) (.d (DU d n p q s)) s11 s12 s13 s14 s15)) : dSeq GR8 U ζ De (EG w d p q s s5 (.d (.int n)) (.d (.int (pw n).1)) (.d (.int (pw n).2)) (.d (.int (sg n))) s10 s11 s12 s13 s14 s15) := by
  obtain ⟨a, b, c, x, e, rfl, ba, bb, bc, bx, be⟩ := hs
  have bf := bp_five h0.bp h1.bp
  have kb : ∀ k ∈ five p q, Kb 376 d k := fun k m => ⟨bf k m, h0.bd.mono (by decide), h0.p⟩
  unfold DU at h
  rw [five_ml] at h
  have s1 : Bd 1 (sg n) := by rcases sg_or n with z | z <;> rw [z] <;> exact .lit
  have e5 : ∀ y : Int, sg n * y = if n % 2 = 0 then y else -y := fun y => by
    by_cases z : n % 2 = 0
    · rw [sg_even z, if_pos z, Int.one_mul]
    · rw [sg_odd z, if_neg z, Int.neg_one_mul]
  have sde : sd n (R5 a b c x e) = R5 (sg n * a) (sg n * b) (sg n * c) (sg n * x) (sg n * e) := by
    unfold sd
    by_cases z : n % 2 = 0
    · rw [if_pos z]; simp only [e5, if_pos z]
    · rw [if_neg z]; simp only [e5, if_neg z]; rfl
  rw [sde] at h
  have m0 : p ∈ five p q := by simp [five]
  have m1 : q ∈ five p q := by simp [five]
  have m2 : ru p q ∈ five p q := by simp [five]
  have m3 : ru q (ru p q) ∈ five p q := by simp [five]
  have m4 : ru (ru p q) (ru q (ru p q)) ∈ five p q := by simp [five]
  refine .inl ⟨szN 5, rfl, szN 3, lt_key (kb _ m0) hn _ ⟨rfl, szN 3, lt_key (kb _ m1) hn _ ⟨rfl, szN 3, lt_key (kb _ m2) hn _ ⟨rfl, szN 3, lt_key (kb _ m3) hn _ ⟨rfl, szN 3, lt_key (kb _ m4) hn _ ?_⟩⟩⟩⟩⟩
  refine ⟨szN 5, s1.cmul ba, s1.cmul bb, s1.cmul bc, s1.cmul bx, s1.cmul be, szN 2, ?_⟩
  exact h
end
end K08
set_option Elab.async false
set_option linter.all false
set_option maxHeartbeats 1000000
set_option maxRecDepth 100000
namespace K08
open PySem PySem.Spec L2 DL
variable {ξ : XT} {Q : D → Prop}
theorem e_initL {N : Nat} {d : Int} {p q : Pr} {s : D} (h0 : Kb N d p) (h1 : Kb N d q) (l : N ≤ 3000) (hs : s ∈ sidesOf (wh d (five p q))) (k : Q (FV d p q s)) : tf_Floor_init ξ [LO p d, LO q d, s] Q := by
  obtain ⟨x, y, z, l1, g⟩ := h0.lo
  obtain ⟨x', y', z', l2, g'⟩ := h1.lo
  rw [show LO p d = T3 x y z from l1.eq, show LO q d = T3 x' y' z' from l2.eq]
  exact e_init g g' l1.r.symm l2.r.symm h0 h1 l hs k
theorem fv_norm {d m n : Int} {p q : Pr} {s : D} (hs : ∃ a b c x e : Int, s = R5 a b c x e) : FV d (ml (gfn m) (ml (gfn n) p)) (ml (gfn m) (ml (gfn n) q)) (sd m (sd n s)) = FV d (ml (gfn (m + n)) p) (ml (gfn (m + n)) q) (sd (m + n) s) := by
  rw [fn_add, ml_assoc, ml_assoc, sd_add hs]
theorem fv_zero {d : Int} {p q : Pr} {s : D} : FV d (ml (gfn 0) p) (ml (gfn 0) q) (sd 0 s) = FV d p q s := by
  rw [fn_zero, ml_comm, ml_one, ml_comm (1, 0), ml_one]
  rfl
structure Fl (N : Nat) (d : Int) (p q : Pr) (s : D) : Prop where
  h0 : Kb N d p
  h1 : Kb N d q
  m : s ∈ sidesOf (wh d (five p q))
theorem Fl.row {N : Nat} {d : Int} {p q : Pr} {s : D} (h : Fl N d p q s) : ∃ a b c x e : Int, s = R5 a b c x e := row_of (shp_filter _) s h.m
theorem Fl.gath {N : Nat} {d n : Int} {p q : Pr} {s : D} (h : Fl N d p q s) (hn : n.natAbs ≤ 400) : Fl (N + 400 + 3) d (ml (gfn n) p) (ml (gfn n) q) (sd n s) :=
  ⟨h.h0.ml hn, h.h1.ml hn, by rw [wh_ml (fn_inv n)]; exact sd_mem (shp_filter _) n h.m⟩
theorem x_gather {N : Nat} {d n : Int} {p q : Pr} {s : D} (h : Fl N d p q s) (hn : n.natAbs ≤ 400) (l : N ≤ 1500) (k : Q (FV d (ml (gfn n) p) (ml (gfn n) q) (sd n s))) : tf_gathered_times ξ [FV d p q s, .int n] Q := e_gather hn h.h0 h.h1 l h.m k
theorem x_gathered {N : Nat} {d : Int} {p q : Pr} {s : D} (h : Fl N d p q s) (l : N ≤ 1500) (k : Q (FV d (ml (gfn 1) p) (ml (gfn 1) q) (sd 1 s))) : tf_gathered ξ [FV d p q s] Q := ⟨rfl, x_gather h (by decide) l k⟩
theorem x_cut {N : Nat} {d : Int} {p q : Pr} {s : D} (h : Fl N d p q s) (l : N ≤ 1500) (k : Q (FV d (ml (gfn (-1)) p) (ml (gfn (-1)) q) (sd (-1) s))) : tf_cut_floor ξ [FV d p q s] Q := ⟨rfl, x_gather h (by decide) l k⟩
theorem Fl.eqI {N : Nat} {d : Int} {p q : Pr} {s : D} {P : D → Prop} (h : Fl N d p q s) (k : P (.bl true)) : gEqI "Floor" tf_Floor_eq (FV d p q s) (FV d p q s) P := e_eqI h.h0.p h.row k
section
variable {De : DEnds} {ζ : XW} {U : TDS} {d n : Int} {p q : Pr} {s : D} {w s2 s3 s4 s5 s6 s7 s8 s9 s10 s11 s12 s13 s14 s15 : DL.Slot}
abbrev TO (d n : Int) (p q : Pr) (s : D) : D := FV d (ml (gfn n) p) (ml (gfn n) q) (sd n s)
theorem gr9 (h : Fl 370 d p q s) (hn : n.natAbs ≤ 400) (k : U ζ De (EG w d p q s (.d (FV d p q s)) (.d (.int n)) s7 s8 s9 s10 s11 s12 s13 (.d (TO d n p q s)) s15)) : dSeq GR9 U ζ De (EG w d p q s (.d (FV d p q s)) (.d (.int n)) s7 s8 s9 s10 s11 s12 s13 s14 s15) :=
  ⟨rfl, x_gather h hn (by decide) k⟩
theorem gr10 (h : Fl 370 d p q s) (hn : n.natAbs ≤ 400) (k : U ζ De (EG w d p q s s5 s6 s7 s8 s9 (.d (DU d n p q s)) s11 s12 s13 (.d (TO d n p q s)) s15)) : dSeq GR10 U ζ De (EG w d p q s s5 s6 s7 s8 s9 (.d (DU d n p q s)) s11 s12 s13 (.d (TO d n p q s)) s15) := by
  have g := h.gath hn
  have gb : Gb 200000 3 (DU d n p q s) := (gb_tup (ds := [.tup (kd d (five (ml (gfn n) p) (ml (gfn n) q))), sd n s]) (n := 2) (w := 66000) (k := 2) (by
    simp only [List.mem_cons, List.not_mem_nil, or_false, forall_eq_or_imp, forall_eq]
    exact ⟨gb_kd g.h0 g.h1 (by decide), (gb_row (shp_filter _) _ g.m).mono⟩) (Nat.le_refl 2)).mono
  refine ⟨szN 2, rfl, same_b gb ?_⟩
  refine ⟨rfl, e_initL g.h0 g.h1 (by decide) g.m ?_⟩
  exact g.eqI k
theorem gb_wh {f : D → Bool} : Gb 21000 1 (.tup (I5.filter f)) := by
  refine (gb_tup (n := 5) (w := 4000) (k := 0) ?_ (List.length_filter_le f I5)).mono
  intro x m
  have m := (List.mem_filter.mp m).1
  simp only [I5, List.mem_cons, List.not_mem_nil, or_false] at m
  rcases m with rfl | rfl | rfl | rfl | rfl <;> exact gb_int (.lit (by decide +kernel))
theorem gr11 (h : Fl 370 d p q s) (hn : n.natAbs ≤ 400) (k : U ζ De (EG w d p q s s5 s6 s7 s8 s9 s10 s11 s12 s13 (.d (TO d n p q s)) s15)) : dSeq GR11 U ζ De (EG w d p q s s5 s6 s7 s8 s9 s10 s11 s12 s13 (.d (TO d n p q s)) s15) := by
  have g := h.gath hn
  have d0 : 0 < d := by have := h.h0.p; omega
  refine ⟨rfl, e_wkeys g.h0.p ?_⟩
  rw [wh_ml (fn_inv n)]
  refine ⟨c5, ?_⟩
  refine lc_filter (f := hwAt d (five p q)) (g := id) ?_ ?_ ?_
  · rw [i5]
    have key : ∀ (x : Pr) (K : Bool → Prop), K (hw d x) → (if decide (x.1 % d = 0) = true then 0 < d ∧ K (decide (x.2 % d = 0)) else K false) := fun x K k => by
      unfold hw at k
      cases e : decide (x.1 % d = 0) with
      | true => rw [e] at k; exact ⟨d0, k⟩
      | false => rw [e] at k; exact k
    exact five5 (fun K k => ⟨d0, key _ K k⟩) (fun K k => ⟨d0, key _ K k⟩) (fun K k => ⟨d0, key _ K k⟩) (fun K k => ⟨d0, key _ K k⟩) (fun K k => ⟨d0, key _ K k⟩)
  · rw [i5]
    exact five5 (fun K k => k) (fun K k => k) (fun K k => k) (fun K k => k) (fun K k => k)
  · rw [List.map_id]
    exact ⟨rfl, same_b gb_wh k⟩
theorem gr12 (h : Fl 370 d p q s) (hn : n.natAbs ≤ 400) (k : U ζ De (EG w d p q s (.d (FV d p q s)) (.d (.int n)) s7 s8 s9 s10 s11 s12 s13 (.d (TO d n p q s)) s15)) : dSeq GR12 U ζ De (EG w d p q s (.d (FV d p q s)) (.d (.int n)) s7 s8 s9 s10 s11 s12 s13 (.d (TO d n p q s)) s15) := by
  have g := h.gath hn
  refine ⟨⟨rfl, rfl⟩, x_gather g (n := -n) (by omega) (by decide) ?_⟩
  rw [fv_norm h.row, show -n + n = 0 by omega, fv_zero]
  refine h.eqI ?_
  refine ⟨rfl, x_gathered h (by decide) ⟨rfl, x_cut (h.gath (by decide)) (by decide) ?_⟩⟩
  rw [fv_norm h.row, show (-1 : Int) + 1 = 0 by omega, fv_zero]
  exact h.eqI k
theorem gr13 (k1 : De.rt (.bl true)) (k : n.natAbs ≤ 40 → U ζ De (EG w d p q s s5 (.d (.int n)) s7 s8 s9 s10 s11 s12 s13 s14 s15)) : dSeq GR13 U ζ De (EG w d p q s s5 (.d (.int n)) s7 s8 s9 s10 s11 s12 s13 s14 s15) := by
  refine (ifd (fun _ => k1) (fun z => k ?_) : if decide ((if n < 0 then -n else n) > 40) = true then _ else _)
  split at z <;> omega
theorem gr14 (h : Fl 370 d p q s) (hn : n.natAbs ≤ 40) (k : U ζ De (EG w d p q s (.d (FV d p q s)) (.d (.int n)) s7 s8 s9 s10 s11 s12 s13 (.d (TO d n p q s)) s15)) : dSeq GR14 U ζ De (EG w d p q s (.d (FV d p q s)) (.d (.int n)) s7 s8 s9 s10 s11 s12 s13 (.d (TO d n p q s)) s15) := by
  have g := h.gath (n := n) (by omega)
  refine ⟨rfl, x_gathered g (by decide) ⟨rfl, x_gather h (n := n + 1) (by omega) (by decide) ?_⟩⟩
  rw [fv_norm h.row, Int.add_comm 1 n]
  exact (h.gath (n := n + 1) (by omega)).eqI k
theorem gr15 (h : Fl 370 d p q s) (hn : n.natAbs ≤ 40) (k : U ζ De (EG w d p q s (.d (FV d p q s)) (.d (.int n)) s7 s8 s9 s10 s11 s12 s13 (.d (TO d n p q s)) s15)) : dSeq GR15 U ζ De (EG w d p q s (.d (FV d p q s)) (.d (.int n)) s7 s8 s9 s10 s11 s12 s13 (.d (TO d n p q s)) s15) := by
  have g := h.gath (n := n) (by omega)
  refine ⟨⟨rfl, rfl⟩, x_cut g (by decide) ⟨rfl, x_gather h (n := n - 1) (by omega) (by decide) ?_⟩⟩
  rw [fv_norm h.row, show -1 + n = n - 1 by omega]
  exact (h.gath (n := n - 1) (by omega)).eqI k
end
theorem row_small {W : List D} (hW : Shp W) : ∀ s ∈ sidesOf W, ∃ a b c x e : Int, s = R5 a b c x e ∧ Bd 4 a ∧ Bd 4 b ∧ Bd 4 c ∧ Bd 4 x ∧ Bd 4 e := by
  have g : ∀ a b c x e : Int, a.natAbs < 16 → b.natAbs < 16 → c.natAbs < 16 → x.natAbs < 16 → e.natAbs < 16 → ∃ a' b' c' x' e' : Int, R5 a b c x e = R5 a' b' c' x' e' ∧ Bd 4 a' ∧ Bd 4 b' ∧ Bd 4 c' ∧ Bd 4 x' ∧ Bd 4 e' := fun a b c x e h1 h2 h3 h4 h5 => ⟨a, b, c, x, e, rfl, h1, h2, h3, h4, h5⟩
  rcases hW with rfl | ⟨r, hr, rfl⟩ | hl
  · intro s m
    simp only [sidesOf, List.mem_cons, List.not_mem_nil, or_false] at m
    subst m
    exact g _ _ _ _ _ (by decide) (by decide) (by decide) (by decide) (by decide)
  · intro s m
    rcases hr with rfl | rfl | rfl | rfl | rfl <;>
    · simp only [sidesOf, oneS, List.mem_cons, List.not_mem_nil, or_false] at m
      rcases m with rfl | rfl <;> exact g _ _ _ _ _ (by decide) (by decide) (by decide) (by decide) (by decide)
  · intro s m
    rw [sides_len hl] at m
    have m := mem_sort.mp m
    simp only [L10, List.mem_cons, List.not_mem_nil, or_false] at m
    rcases m with rfl | rfl | rfl | rfl | rfl | rfl | rfl | rfl | rfl | rfl <;> exact g _ _ _ _ _ (by decide) (by decide) (by decide) (by decide) (by decide)
theorem e_gright (k : Q (.bl true)) : tf__law_are_gathered_right ξ [.deck] Q := by
  show T__law_are_gathered_right (fun _ _ => False) { nx := fun _ => Q .non, rt := Q } [.d .deck, .un, .un, .un, .un, .un, .un, .un, .un, .un, .un, .un, .un, .un, .un, .un]
  rw [GR_eq]
  refine gr1 fun d p q s x h0 h1 m => ?_
  have h : Fl 370 d p q s := ⟨h0, h1, m⟩
  refine gr2 ?_
  refine gr3 h0 h1 m ?_
  refine gr4 fun n hn => ?_
  refine gr5 hn fun n hn => ?_
  refine gr6 hn ?_
  refine gr7 ?_
  refine gr8 h0 h1 hn (row_small (shp_filter _) s m) ?_
  refine gr9 h hn ?_
  refine gr10 h hn ?_
  refine gr11 h hn ?_
  refine gr12 h hn ?_
  refine gr13 k fun hn => ?_
  refine gr14 h hn ?_
  refine gr15 h hn ?_
  exact k
end K08
set_option Elab.async false
set_option linter.all false
set_option maxHeartbeats 1000000
set_option maxRecDepth 100000
namespace K08
open PySem PySem.Spec L2 DL
variable {ξ : XT} {Q : D → Prop}
def LW1 : TDS := (dPar 3 4 (dCons (dCall 1 tf__law_exponent (dCons (dVar 1) dNil)) (dCons (dCall 1 tf__law_exponent (dCons (dVar 1) dNil)) dNil)))
def LW2 : TDS := (dIfS (dtNot (dTest (dCall 3 tf__law_are_powers_right (dCons (dVar 1) (dCons (dVar 3) (dCons (dVar 4) dNil)))))) (dRet (dC (.bl false))) dNext)
def LW3 : TDS := (dAsg (dCall 2 tf__law_odd (dCons (dVar 1) (dCons (dVar 3) dNil))) (dgName 5))
def LW4 : TDS := (dAsg (dIf (dTest (dCall 3 tf__law_is_integer (dCons (dVar 5) (dCons (dUn gNeg (dC (.int 2000))) (dCons (dC (.int 2000)) dNil))))) (dC .non) (dTup (dCons (dC (.str "power")) (dCons (dVar 5) dNil)))) (dgName 6))
def LW5 : TDS := (dIfS (dtNot (dTest (dCall 2 tf__law_same (dCons (dTup (dCons (dCall 2 tf__law_refused (dCons (dVar 5) (dCons (dC (.bl false)) dNil))) (dCons (dCall 2 tf__law_refused (dCons (dVar 5) (dCons (dC (.bl true)) dNil))) dNil))) (dCons (dTup (dCons (dVar 6) (dCons (dVar 6) dNil))) dNil))))) (dRet (dC (.bl false))) dNext)
abbrev LWB : TDS := (dSeq LW1 (dSeq LW2 (dSeq LW3 (dSeq LW4 LW5))))
/- dForR (dCons (dC (.int 3)) dNil) (dgName 2) -/
section
variable {De : DEnds} {ζ : XW} {U : TDS} {n m : Int} {d : D} {s0 s1 s2 s3 s4 s5 s6 : DL.Slot}
theorem lw1 (h : ∀ n m : Int, n.natAbs ≤ 2000 → m.natAbs ≤ 2000 → U ζ De [s0, .d .deck, s2, .d (.int n), .d (.int m), s5, s6]) : dSeq LW1 U ζ De [s0, .d .deck, s2, s3, s4, s5, s6] :=
  ⟨rfl, e_exponent fun n hn => ⟨rfl, e_exponent fun m hm => h n m hn hm⟩⟩
theorem lw2 (hn : n.natAbs ≤ 2000) (hm : m.natAbs ≤ 2000) (h : U ζ De [s0, .d .deck, s2, .d (.int n), .d (.int m), s5, s6]) : dSeq LW2 U ζ De [s0, .d .deck, s2, .d (.int n), .d (.int m), s5, s6] :=
  ⟨rfl, e_powers hn hm h⟩
theorem lw3 (hn : n.natAbs ≤ 2000) (h : ∀ d, Gd 1100 3 d → U ζ De [s0, .d .deck, s2, .d (.int n), s4, .d d, s6]) : dSeq LW3 U ζ De [s0, .d .deck, s2, .d (.int n), s4, s5, s6] :=
  ⟨rfl, e_odd hn fun d g => h d g⟩
theorem lw4 (g : Gd 1100 3 d) (h : U ζ De [s0, s1, s2, s3, s4, .d d, .d (dueP d)]) : dSeq LW4 U ζ De [s0, s1, s2, s3, s4, .d d, s6] := by
  refine ⟨rfl, e_isint (typed_of g.pl) ?_⟩
  unfold dueP at h
  cases e : inr d with
  | true => rw [e, if_pos rfl] at h; exact h
  | false => rw [e, if_neg (by decide)] at h; exact ⟨szN 2, h⟩
theorem lw5 (g : Gd 1100 3 d) (h : De.nx [s0, s1, s2, s3, s4, .d d, .d (dueP d)]) : LW5 ζ De [s0, s1, s2, s3, s4, .d d, .d (dueP d)] := by
  have t := typed_of g.pl
  refine ⟨rfl, e_refused t ⟨rfl, e_refused t ⟨szN 2, szN 2, rfl, ?_⟩⟩⟩
  have gd := gd_due g
  have g2 : Gd 7000 5 (.tup [dueP d, dueP d]) := (gd_tup (n := 2) (w := 3000) (k := 4) (ds := [dueP d, dueP d]) (by
    simp only [List.mem_cons, List.not_mem_nil, or_false, forall_eq_or_imp, forall_eq]
    exact ⟨gd, gd⟩) (Nat.le_refl 2)).mono (by decide) (by decide)
  exact same_r g2.show h
theorem lw_body {t3 t4 t5 t6 : DL.Slot} (h : ∀ s3 s4 s5 s6, De.nx [s0, .d .deck, s2, s3, s4, s5, s6]) : LWB ζ De [s0, .d .deck, s2, t3, t4, t5, t6] := by
  refine lw1 fun n m hn hm => ?_
  refine lw2 hn hm ?_
  refine lw3 hn fun d g => ?_
  refine lw4 g ?_
  exact lw5 g (h _ _ _ _)
end
theorem lw_loop {ζ : XW} {s0 : DL.Slot} : ∀ (items : List D) {De : DEnds} {t2 t3 t4 t5 t6 : DL.Slot}, (∀ s2 s3 s4 s5 s6, De.nx [s0, .d .deck, s2, s3, s4, s5, s6]) → forD (dgName 2) LWB ζ De items [s0, .d .deck, t2, t3, t4, t5, t6]
  | [], De, t2, t3, t4, t5, t6, h => h _ _ _ _ _
  | d :: ds, De, t2, t3, t4, t5, t6, h => for_cons (lw_body fun s3 s4 s5 s6 => lw_loop ds h)
end K08
set_option Elab.async false
set_option linter.all false
set_option maxHeartbeats 1000000
set_option maxRecDepth 100000
namespace K08
open PySem PySem.Spec L2 DL
theorem math : T_law (fun _ _ => False) { nx := fun _ => False, rt := fun d => d = .bl true } (.un :: .d .deck :: List.replicate 5 .un) := by
  unfold T_law
  refine ⟨⟨by decide, by decide⟩, ?_⟩
  show forD (dgName 2) LWB _ _ (intsD 0 (3 : Int).toNat) _
  refine lw_loop _ fun s2 s3 s4 s5 s6 => ?_
  exact ⟨rfl, e_gright rfl⟩
end K08
set_option Elab.async false
set_option linter.all false
set_option maxRecDepth 100000
set_option maxHeartbeats 4000000
namespace K08
open PySem PySem.Spec L2 DL
open PyProof.Rows hiding St
theorem facts {P : Program} {w : World} {K : PySem.W.Frag} {h : Heap} {mg : Str → Option Value} {f : Addr} (X : K.In h) (G : h.Ns mainGlobals mg) (hfa : mg ("law" : Str) = some (.ref f)) (c : He.SaysD faL fn K) (ce : ex K = true) :
    ∃ fd : FuncData, tabNB K TN = true ∧ (∀ (s : Shared) (v : Value), BindsTo s fd ⟨[v], []⟩ [("_law_script", v)]) ∧ ∀ base : Heap, K.In base → base.Ns mainGlobals mg → TBs K mg base TN → FnG P w K mg base CX0 12 f fd ["_law_script"] (spLaw K 5 T_law) := by
  obtain ⟨fd0, F0⟩ := c.def_ 0 (d := dd_is_plain_integer) rfl
  obtain ⟨fd1, F1⟩ := c.def_ 1 (d := dd_is_tuple_of) rfl
  obtain ⟨fd2, F2⟩ := c.def_ 2 (d := dd_are_plain_integers) rfl
  obtain ⟨fd3, F3⟩ := c.def_ 3 (d := dd_is_golden) rfl
  obtain ⟨fd4, F4⟩ := c.def_ 4 (d := dd_need_golden) rfl
  obtain ⟨fd5, F5⟩ := c.def_ 5 (d := dd__lowest) rfl
  obtain ⟨fd6, F6⟩ := c.def_ 6 (d := dd_reduced) rfl
  obtain ⟨fd7, F7⟩ := c.def_ 7 (d := dd_minus) rfl
  obtain ⟨fd8, F8⟩ := c.def_ 8 (d := dd_times) rfl
  obtain ⟨fd9, F9⟩ := c.def_ 9 (d := dd_quotient) rfl
  obtain ⟨fd10, F10⟩ := c.def_ 10 (d := dd_sign_of_parts) rfl
  obtain ⟨fd11, F11⟩ := c.def_ 11 (d := dd_sign) rfl
  obtain ⟨fd12, F12⟩ := c.def_ 12 (d := dd_integer_below) rfl
  obtain ⟨fd13, F13⟩ := c.def_ 13 (d := dd_integer_above) rfl
  obtain ⟨fd14, F14⟩ := c.def_ 14 (d := dd_is_whole) rfl
  obtain ⟨fd15, F15⟩ := c.def_ 15 (d := dd_conjugate) rfl
  obtain ⟨fd16, F16⟩ := c.def_ 16 (d := dd_power) rfl
  obtain ⟨fd17, F17⟩ := c.def_ 17 (d := dd_five_by_rule) rfl
  obtain ⟨fd18, F18⟩ := c.def_ 18 (d := dd_led_round) rfl
  obtain ⟨fd19, F19⟩ := c.def_ 19 (d := dd_with_part) rfl
  obtain ⟨fd20, F20⟩ := c.def_ 20 (d := dd_stepped) rfl
  obtain ⟨fd21, F21⟩ := c.def_ 21 (d := dd_keys_by) rfl
  obtain ⟨fd22, F22⟩ := c.def_ 22 (d := dd__whole_directions) rfl
  obtain ⟨fd23, F23⟩ := c.def_ 23 (d := dd__sides_of) rfl
  obtain ⟨fd24, F24⟩ := c.def_ 24 (d := dd_Floor_init) rfl
  obtain ⟨fd25, F25⟩ := c.def_ 25 (d := dd_Floor_eq) rfl
  obtain ⟨fd26, F26⟩ := c.def_ 26 (d := dd_whole_keys) rfl
  obtain ⟨fd27, F27⟩ := c.def_ 27 (d := dd_gathered_times) rfl
  obtain ⟨fd28, F28⟩ := c.def_ 28 (d := dd_gathered) rfl
  obtain ⟨fd29, F29⟩ := c.def_ 29 (d := dd_cut_floor) rfl
  obtain ⟨fd30, F30⟩ := c.def_ 30 (d := dd__law_deck) rfl
  obtain ⟨fd31, F31⟩ := c.def_ 31 (d := dd__law_draw) rfl
  obtain ⟨fd32, F32⟩ := c.def_ 32 (d := dd__law_pick) rfl
  obtain ⟨fd33, F33⟩ := c.def_ 33 (d := dd__law_integer) rfl
  obtain ⟨fd34, F34⟩ := c.def_ 34 (d := dd__law_common) rfl
  obtain ⟨fd35, F35⟩ := c.def_ 35 (d := dd__law_least) rfl
  obtain ⟨fd36, F36⟩ := c.def_ 36 (d := dd__law_keys) rfl
  obtain ⟨fd37, F37⟩ := c.def_ 37 (d := dd__law_sides) rfl
  obtain ⟨fd38, F38⟩ := c.def_ 38 (d := dd__law_tiny) rfl
  obtain ⟨fd39, F39⟩ := c.def_ 39 (d := dd__law_world) rfl
  obtain ⟨fd40, F40⟩ := c.def_ 40 (d := dd__law_same) rfl
  obtain ⟨fd41, F41⟩ := c.def_ 41 (d := dd__law_power) rfl
  obtain ⟨fd42, F42⟩ := c.def_ 42 (d := dd__law_times) rfl
  obtain ⟨fd43, F43⟩ := c.def_ 43 (d := dd__law_refused) rfl
  obtain ⟨fd44, F44⟩ := c.def_ 44 (d := dd__law_odd) rfl
  obtain ⟨fd45, F45⟩ := c.def_ 45 (d := dd__law_is_integer) rfl
  obtain ⟨fd46, F46⟩ := c.def_ 46 (d := dd__law_exponent) rfl
  obtain ⟨fd47, F47⟩ := c.def_ 47 (d := dd__law_are_powers_right) rfl
  obtain ⟨fd48, F48⟩ := c.def_ 48 (d := dd__law_are_gathered_right) rfl
  obtain ⟨fd49, F49⟩ := c.def_ 49 (d := dd_law) rfl
  obtain ⟨fi0, I0⟩ := c.def_ 50 (d := di_BadCount) rfl
  obtain ⟨fi1, I1⟩ := c.def_ 51 (d := di_BadNumber) rfl
  obtain ⟨fi2, I2⟩ := c.def_ 52 (d := di_BadPower) rfl
  obtain ⟨fi3, I3⟩ := c.def_ 53 (d := di_BadSide) rfl
  simp only [ex, Bool.and_eq_true] at ce
  obtain ⟨⟨⟨⟨⟨⟨⟨⟨⟨⟨⟨⟨⟨⟨⟨⟨⟨⟨⟨⟨⟨⟨⟨⟨⟨⟨⟨⟨⟨⟨⟨⟨⟨⟨⟨⟨⟨⟨⟨⟨⟨⟨⟨⟨⟨⟨⟨⟨⟨⟨⟨⟨⟨⟨⟨⟨⟨⟨⟨ce0, ce1⟩, ce2⟩, ce3⟩, ce4⟩, ce5⟩, ce6⟩, ce7⟩, ce8⟩, ce9⟩, ce10⟩, ce11⟩, ce12⟩, ce13⟩, ce14⟩, ce15⟩, ce16⟩, ce17⟩, ce18⟩, ce19⟩, ce20⟩, ce21⟩, ce22⟩, ce23⟩, ce24⟩, ce25⟩, ce26⟩, ce27⟩, ce28⟩, ce29⟩, ce30⟩, ce31⟩, ce32⟩, ce33⟩, ce34⟩, ce35⟩, ce36⟩, ce37⟩, ce38⟩, ce39⟩, ce40⟩, ce41⟩, ce42⟩, ce43⟩, ce44⟩, ce45⟩, ce46⟩, ce47⟩, ce48⟩, ce49⟩, ce50⟩, ce51⟩, ce52⟩, ce53⟩, ce54⟩, ce55⟩, ce56⟩, ce57⟩, ce58⟩, ce59⟩ := ce
  obtain ⟨ax0, X0⟩ := exf_ok X G ce10
  obtain ⟨ax1, X1⟩ := exf_ok X G ce12
  obtain ⟨ax2, X2⟩ := exf_ok X G ce14
  obtain ⟨ax3, X3⟩ := exf_ok X G ce16
  obtain ⟨ar0, R0⟩ := ref_ok X G ce18
  obtain ⟨ar1, R1⟩ := ref_ok X G ce19
  obtain ⟨ar2, R2⟩ := ref_ok X G ce20
  obtain ⟨ar3, R3⟩ := ref_ok X G ce21
  obtain ⟨ar4, R4⟩ := ref_ok X G ce22
  obtain ⟨ac0, C0⟩ := cls_ok X G ce54
  let t : Tx K mg := ⟨_,
    fd0,
    F0,
    (He.glo_ok X G (c.fact 0 (f := .glo "is_plain_integer") rfl)),
    _,
    fd1,
    F1,
    (He.glo_ok X G (c.fact 1 (f := .glo "is_tuple_of") rfl)),
    _,
    fd2,
    F2,
    (He.glo_ok X G (c.fact 2 (f := .glo "are_plain_integers") rfl)),
    _,
    fd3,
    F3,
    (He.glo_ok X G (c.fact 3 (f := .glo "is_golden") rfl)),
    _,
    fd4,
    F4,
    (He.glo_ok X G (c.fact 4 (f := .glo "need_golden") rfl)),
    _,
    fd5,
    F5,
    (He.glo_ok X G (c.fact 5 (f := .glo "_lowest") rfl)),
    _,
    fd6,
    F6,
    (He.glo_ok X G (c.fact 6 (f := .glo "reduced") rfl)),
    _,
    fd7,
    F7,
    (He.glo_ok X G (c.fact 7 (f := .glo "minus") rfl)),
    _,
    fd8,
    F8,
    (He.glo_ok X G (c.fact 8 (f := .glo "times") rfl)),
    _,
    fd9,
    F9,
    (He.glo_ok X G (c.fact 9 (f := .glo "quotient") rfl)),
    _,
    fd10,
    F10,
    (He.glo_ok X G (c.fact 10 (f := .glo "sign_of_parts") rfl)),
    _,
    fd11,
    F11,
    (He.glo_ok X G (c.fact 11 (f := .glo "sign") rfl)),
    _,
    fd12,
    F12,
    (He.glo_ok X G (c.fact 12 (f := .glo "integer_below") rfl)),
    _,
    fd13,
    F13,
    (He.glo_ok X G (c.fact 13 (f := .glo "integer_above") rfl)),
    _,
    fd14,
    F14,
    (He.glo_ok X G (c.fact 14 (f := .glo "is_whole") rfl)),
    _,
    fd15,
    F15,
    (He.glo_ok X G (c.fact 15 (f := .glo "conjugate") rfl)),
    _,
    fd16,
    F16,
    (He.glo_ok X G (c.fact 16 (f := .glo "power") rfl)),
    _,
    fd17,
    F17,
    (He.glo_ok X G (c.fact 17 (f := .glo "five_by_rule") rfl)),
    _,
    fd18,
    F18,
    (He.glo_ok X G (c.fact 18 (f := .glo "led_round") rfl)),
    _,
    fd19,
    F19,
    (He.glo_ok X G (c.fact 19 (f := .glo "with_part") rfl)),
    _,
    fd20,
    F20,
    (He.glo_ok X G (c.fact 20 (f := .glo "stepped") rfl)),
    _,
    fd21,
    F21,
    (He.glo_ok X G (c.fact 21 (f := .glo "keys_by") rfl)),
    _,
    fd22,
    F22,
    (He.glo_ok X G (c.fact 22 (f := .glo "_whole_directions") rfl)),
    _,
    fd23,
    F23,
    (He.glo_ok X G (c.fact 23 (f := .glo "_sides_of") rfl)),
    _,
    (dflIB_ok ce59),
    _,
    fd24,
    F24,
    _,
    fd25,
    F25,
    _,
    fd26,
    F26,
    (He.glo_ok X G (c.fact 24 (f := .glo "whole_keys") rfl)),
    _,
    fd27,
    F27,
    (He.glo_ok X G (c.fact 25 (f := .glo "gathered_times") rfl)),
    _,
    fd28,
    F28,
    (He.glo_ok X G (c.fact 26 (f := .glo "gathered") rfl)),
    _,
    fd29,
    F29,
    (He.glo_ok X G (c.fact 27 (f := .glo "cut_floor") rfl)),
    _,
    fd30,
    F30,
    (He.glo_ok X G (c.fact 28 (f := .glo "_law_deck") rfl)),
    _,
    fd31,
    F31,
    (He.glo_ok X G (c.fact 29 (f := .glo "_law_draw") rfl)),
    _,
    fd32,
    F32,
    (He.glo_ok X G (c.fact 30 (f := .glo "_law_pick") rfl)),
    _,
    fd33,
    F33,
    (He.glo_ok X G (c.fact 31 (f := .glo "_law_integer") rfl)),
    _,
    fd34,
    F34,
    (He.glo_ok X G (c.fact 32 (f := .glo "_law_common") rfl)),
    _,
    fd35,
    F35,
    (He.glo_ok X G (c.fact 33 (f := .glo "_law_least") rfl)),
    _,
    fd36,
    F36,
    (He.glo_ok X G (c.fact 34 (f := .glo "_law_keys") rfl)),
    _,
    fd37,
    F37,
    (He.glo_ok X G (c.fact 35 (f := .glo "_law_sides") rfl)),
    _,
    fd38,
    F38,
    (He.glo_ok X G (c.fact 36 (f := .glo "_law_tiny") rfl)),
    _,
    fd39,
    F39,
    (He.glo_ok X G (c.fact 37 (f := .glo "_law_world") rfl)),
    _,
    fd40,
    F40,
    (He.glo_ok X G (c.fact 38 (f := .glo "_law_same") rfl)),
    _,
    fd41,
    F41,
    (He.glo_ok X G (c.fact 39 (f := .glo "_law_power") rfl)),
    _,
    fd42,
    F42,
    (He.glo_ok X G (c.fact 40 (f := .glo "_law_times") rfl)),
    _,
    fd43,
    F43,
    (He.glo_ok X G (c.fact 41 (f := .glo "_law_refused") rfl)),
    _,
    fd44,
    F44,
    (He.glo_ok X G (c.fact 42 (f := .glo "_law_odd") rfl)),
    _,
    fd45,
    F45,
    (He.glo_ok X G (c.fact 43 (f := .glo "_law_is_integer") rfl)),
    _,
    fd46,
    F46,
    (He.glo_ok X G (c.fact 44 (f := .glo "_law_exponent") rfl)),
    _,
    fd47,
    F47,
    (He.glo_ok X G (c.fact 45 (f := .glo "_law_are_powers_right") rfl)),
    _,
    fd48,
    F48,
    (He.glo_ok X G (c.fact 46 (f := .glo "_law_are_gathered_right") rfl)),
    _,
    fd49,
    F49,
    (He.glo_ok X G (c.fact 47 (f := .glo "law") rfl)),
    (He.free_ok X G (c.fact 48 (f := .free "abs") rfl)),
    (He.free_ok X G (c.fact 49 (f := .free "all") rfl)),
    (He.free_ok X G (c.fact 50 (f := .free "bool") rfl)),
    (He.free_ok X G (c.fact 51 (f := .free "int") rfl)),
    (He.free_ok X G (c.fact 52 (f := .free "isinstance") rfl)),
    (He.free_ok X G (c.fact 53 (f := .free "len") rfl)),
    (He.free_ok X G (c.fact 54 (f := .free "list") rfl)),
    (He.free_ok X G (c.fact 55 (f := .free "max") rfl)),
    (He.free_ok X G (c.fact 56 (f := .free "range") rfl)),
    (He.free_ok X G (c.fact 57 (f := .free "repr") rfl)),
    (He.free_ok X G (c.fact 58 (f := .free "sorted") rfl)),
    (He.free_ok X G (c.fact 59 (f := .free "str") rfl)),
    (He.free_ok X G (c.fact 60 (f := .free "tuple") rfl)),
    (blt_ok X G ce0),
    (blt_ok X G ce1),
    (tupIB_ok X G ce2),
    (gint_ok X G ce3),
    (tupIB_ok X G ce4),
    (gint_ok X G ce5),
    (tupIB_ok X G ce6),
    (tupIB_ok X G ce7),
    (insB_ok ce56),
    (mkB_ok ce57),
    (mg_ins X G (insB_ok ce56)),
    (eqB_ok ce58),
    ce8,
    ce9,
    ax0,
    _,
    X0,
    fi0,
    I0,
    (exis_ok ce11),
    ax1,
    _,
    X1,
    fi1,
    I1,
    (exis_ok ce13),
    ax2,
    _,
    X2,
    fi2,
    I2,
    (exis_ok ce15),
    ax3,
    _,
    X3,
    fi3,
    I3,
    (exis_ok ce17),
    ar0,
    R0,
    ar1,
    R1,
    ar2,
    R2,
    ar3,
    R3,
    ar4,
    R4,
    (of_decide_eq_true ce23),
    (of_decide_eq_true ce24),
    (of_decide_eq_true ce25),
    (of_decide_eq_true ce26),
    (of_decide_eq_true ce27),
    (of_decide_eq_true ce28),
    (of_decide_eq_true ce29),
    (of_decide_eq_true ce30),
    (of_decide_eq_true ce31),
    (of_decide_eq_true ce32),
    (of_decide_eq_true ce33),
    (of_decide_eq_true ce34),
    (of_decide_eq_true ce35),
    (of_decide_eq_true ce36),
    (of_decide_eq_true ce37),
    (of_decide_eq_true ce38),
    (of_decide_eq_true ce39),
    (of_decide_eq_true ce40),
    (of_decide_eq_true ce41),
    (of_decide_eq_true ce42),
    (of_decide_eq_true ce43),
    (of_decide_eq_true ce44),
    (of_decide_eq_true ce45),
    (of_decide_eq_true ce46),
    (of_decide_eq_true ce47),
    (of_decide_eq_true ce48),
    (of_decide_eq_true ce49),
    (of_decide_eq_true ce50),
    (of_decide_eq_true ce51),
    (of_decide_eq_true ce52),
    ac0,
    C0,
    (exis_ok ce55)⟩
  have e := hfa.symm.trans t.m_law
  cases e
  have b := FunD.bindsA (ps := ["_law_script"]) t.F_law fun _ _ _ _ _ _ us hl => match us, hl with | [_], _ => rfl
  exact ⟨t.d_law, ce53, fun s v => b s [v] rfl, fun base _ _ tb => ok_law t⟩
end K08
open PySem PySem.W PySem.Calls PyProof.Rows
set_option maxRecDepth 100000 in
set_option maxHeartbeats 0 in
theorem PySem.Challenge.cw_nevertwice_k08_whole_powers_and_floors_g_holds : PySem.Challenge.rw_nevertwice_k08_whole_powers_and_floors_g.Holds := by
  w_on; o_law
  refine HandSHeadRun.head_imp (r := OpenLaw.row PySem.Challenge.rw_nevertwice_k08_whole_powers_and_floors_g) (q := view (OpenLaw.row PySem.Challenge.rw_nevertwice_k08_whole_powers_and_floors_g).prog [0, 83]) (H := K08.hk) (ob := K08.ob) (M := 6040) (loose := K08.nms) (d := HandSHeadRun.topDef (OpenLaw.row PySem.Challenge.rw_nevertwice_k08_whole_powers_and_floors_g).prog 83) (kwd := []) K08.ob_eq
    K08.run (by kernel_rfl) (by kernel_rfl) (by kernel_rfl) (by rfl) (by first | assumption | decide +kernel) (by decide +kernel) ⟨rfl, rfl, rfl, rfl, rfl, by decide +kernel⟩ ?hw ?hc
  case hw => w_witness2
  case hc =>
    refine DL.walk_ofT (l := PySem.Challenge.rw_nevertwice_k08_whole_powers_and_floors_g) (n := 63) (k := 12) (x := "_law_script") rfl (by decide) (by kernel_rfl) ⟨⟨rfl, by decide, by decide⟩, rfl⟩ ?F
    intro w mg fa h Y G hmg0
    obtain ⟨K, KX, c⟩ := Y
    have hmg : mg ("law" : PySem.Str) = some (.ref fa) := by
      have e : (HandSHeadRun.topDef (OpenLaw.row PySem.Challenge.rw_nevertwice_k08_whole_powers_and_floors_g).prog 83).name = ("law" : PySem.Str) := by kernel_rfl
      rw [← e]
      exact hmg0
    obtain ⟨fd, htn, hb, hF⟩ := K08.facts (P := (PySem.Challenge.rw_nevertwice_k08_whole_powers_and_floors_g).prog) (w := w) KX G hmg c.d c.ex
    exact ⟨K, fd, K08.TN.map (fun n => He.cT K (n, none)), DL.spLaw K 5 K08.T_law, KX, DL.cs_ok KX c, hb, fun H a ns hl hT hS => ⟨a, ns, rfl, hS, hl, DL.tabs_start htn hT, K08.math, fun _ => rfl⟩, fun base kb nb tb => hF base kb nb (DL.tbs_of tb)⟩
