import PyProof.Rows.All
import Wide.All
import OpenK.AllK
import Wide.FinOn
import Flt.RightSqrt
import HandS.Comp
import HandS.Deep
import HandS.Defaults
import HandS.EndBits
import HandS.EndTab
import HandS.Ends
import HandS.Exc
import HandS.ExcField
import HandS.ExcOwn
import HandS.ForMost
import HandS.Gcd
import HandS.Head0
import HandS.Head1
import HandS.Head2
import HandS.Head3
import HandS.HeadEnd
import HandS.HeadHook1
import HandS.HeadHook2
import HandS.HeadHook4
import HandS.IsInst
import HandS.Lambda
import HandS.More
import HandS.SlotsOwn
import HandS.StrMore
import HandS.Strs
import HandS.Style
import HandS.Text
import HandS.TryMany
import HandS.TryOnly
import HandS.TupAny
import HandS.TupMul
import HandS.Walk
import HandS.Wide
import HandS.WideBits
import HandS.Zip
import KE.GoesMore
import KE.KExcInit
import KE.KExcIs
import KE.KIntText
import KE.KMathG
import KE.KTupSum
import PyProof.DictStraight
import PyProof.FitsInt
import PyProof.ReprRoads
import PyProof.StrLawsRepr
import PyProof.StrOps2
import PySem.Challenge.RW_nevertwice_k10_any_value_as_a_golden_num
set_option Elab.async false
set_option linter.all false
set_option maxRecDepth 100000
/-! Data in place of heaps: a reading over plain data, for programs whose values are data and whose one mutable thing is a deck. -/
namespace DL
open PySem PySem.Spec L2
open PyProof.Rows hiding St

/-- data -/
inductive D where
  | non
  | bl (b : Bool)
  | int (i : Int)
  | str (x : Str)
  | tup (ds : List D)
  | lst (ds : List D)
  | dct (ks : List Key) (ds : List D)
  | deck
  | ty (n : String)
  | kt (ds : List D)
  | ins (c : Str) (fs : List Str) (ds : List D)

/-- defs of laws that make lambdas -/
def lamDefs : List Str := (["_law_are_values_right", "_law_refusals_right", "_law_is_making_right", "_law_is_rest_right", "_law_is_around_right", "_law_are_parts_right", "_law_is_alone_right", "_law_are_two_right", "_law_near_right", "_law_sure_right", "_law_thing_right", "_law_corner_right", "_law_objects_right", "_law_calls", "_law_star_right", "_law_is_right", "_law_is_row_right", "_law_is_neighbour_right", "_law_is_back_right", "_law_two_right", "_law_one_right", "_law_is_floor_refused", "_law_is_great_right"] : List Str) ++ (["_law_is_refusal_right", "_law_is_step_right", "_law_is_redone_right", "_law_is_text_right", "_law_is_take_right", "_law_is_odd_deal_right", "_law_is_lay_right", "_law_is_grow_right", "_law_is_deal_right", "_law_is_dead_right", "_law_is_change_right"] : List Str)
def hasDef (K : PySem.W.Frag) (n : Str) : Bool := match PySem.W.nsIn K mainGlobals n with
  | some (some (.ref _)) => true
  | _ => false
def lamQ (n : Str) : Str := n ++ ".<locals>." ++ "<lambda>"
/-- their tables, the names in them -/
def tabsOf (K : PySem.W.Frag) : List (Addr × Str) := (lamDefs.filter (hasDef K)).map fun n => ((He.cT K (n, none)).2, lamQ n)
/-- where the deck stands: its dict, its list; the tables of code objects -/
structure Zn where
  deck : Option (Addr × Addr)
  tabs : List (Addr × Str)
def InZ (Z : Zn) (p : Addr) : Prop := ∃ a l, Z.deck = some (a, l) ∧ (p = a ∨ p = l)
/-- no table of code objects -/
def Kp (o : HO) : Prop := ∀ ps, o ≠ .tbl ps
theorem kp_tup {vs : List V} : Kp (.tup vs) := fun _ h => by cases h
theorem kp_lst {vs : List V} : Kp (.lst vs) := fun _ h => by cases h
theorem kp_dk {vs : List (Key × V)} : Kp (.dK vs) := fun _ h => by cases h
theorem kp_frz {o : Obj} {u : HO} : Kp (.frz o u) := fun _ h => by cases h
theorem kp_xd {vs : List (Str × V)} : Kp (.xd vs) := fun _ h => by cases h
def deckKvs (l : Addr) (m k : Int) : List (Key × V) := [(.inr ("left" : Str), .ref l), (.inr ("mixed" : Str), .int m), (.inr ("draws" : Str), .int k)]
def DeckAt (H : Hp) (a l : Addr) : Prop := ∃ (xs : List Int) (m k : Int), H a = some (.dK (deckKvs l m k)) ∧ H l = some (.lst (xs.map V.int)) ∧ xs.length ≤ 63
/-- a store elsewhere leaves the tables as they are -/
theorem tab_upd {H : Hp} {A P : Addr} {o o' : HO} {q : Str} (h : H A = some o) (n1 : Kp o) (n2 : ∀ φ, o ≠ .ext φ) (t : LamX.TabS H P q) : LamX.TabS (upd H A o') P q := by
  obtain ⟨ps, h1, h2, h3⟩ := t
  have e1 : P ≠ A := fun z => by rw [z, h] at h1; cases h1; exact n1 ps rfl
  refine ⟨ps, by rw [upd_ne e1]; exact h1, h2, fun pos cv hc => ?_⟩
  obtain ⟨c, e2, e3⟩ := h3 pos cv hc
  have e4 : c ≠ A := fun z => by
    rw [z, h] at e3
    unfold LamX.CodeO at e3
    cases e3
    exact n2 _ rfl
  exact ⟨c, e2, by rw [upd_ne e4]; exact e3⟩
def DeckOk (Z : Zn) (H : Hp) : Prop := (∀ a l, Z.deck = some (a, l) → DeckAt H a l) ∧ LamX.Tabs Z.tabs H
/-- what may happen to a heap: new things come, the deck changes as a deck -/
structure Ext (Z : Zn) (H H' : Hp) : Prop where
  keep : ∀ p o, ¬ InZ Z p → Kp o → H p = some o → H' p = some o
  deck : DeckOk Z H → DeckOk Z H'
theorem Ext.refl {Z : Zn} {H : Hp} : Ext Z H H := ⟨fun _ _ _ _ h => h, fun h => h⟩
theorem Ext.trans {Z : Zn} {H H1 H2 : Hp} (a : Ext Z H H1) (b : Ext Z H1 H2) : Ext Z H H2 :=
  ⟨fun p o n k h => b.keep p o n k (a.keep p o n k h), fun h => b.deck (a.deck h)⟩

abbrev NK : Hp := fun _ => none
/-- where the class of this name stands -/
def insA (K : PySem.W.Frag) (c : Str) : Addr := match PySem.W.nsIn K mainGlobals c with
  | some (some (.ref a)) => a
  | _ => 0
/-- a class of the program's own whose instances have these attributes -/
structure InsK (K : PySem.W.Frag) (c : Str) (fs : List Str) : Prop where
  at_ : PySem.W.nsIn K mainGlobals c = some (some (.ref (insA K c)))
  cls : Cls K (insA K c)
  no : ∀ f ∈ fs, NoAttr K (insA K c) f
  ca : PySem.W.findIn K (.ref (insA K c)) "__class__" = some (some (.builtin "object.__class__"))
  cn : PySem.W.specialIn K (.builtin "object.__class__") "__get__" = some (some (.builtin "getset_descriptor.__get__"))
  ct : PySem.W.takesIn K (.builtin "object.__class__") = some true
  cm : PySem.W.mroIn K (insA K c) (.type "object") = some true
  kit : ∀ b ∈ ["int", "bool", "tuple", "list", "str", "dict"], PySem.W.kitOne K (.ref (insA K c)) (.type b) = some false
  tik : ∀ b ∈ ["NoneType", "int", "bool", "tuple", "list", "str", "dict"], PySem.W.kitOne K (.type b) (.ref (insA K c)) = some false
  self : PySem.W.kitOne K (.ref (insA K c)) (.ref (insA K c)) = some true
  nf : PySem.W.notFirst K (insA K c) (.ref (insA K c)) = true
def insB (K : PySem.W.Frag) (c : Str) (fs : List Str) : Bool :=
  decide (PySem.W.nsIn K mainGlobals c = some (some (.ref (insA K c)))) &&
  (PySem.W.plainGet K (insA K c) Str.empty && (PySem.W.hasDictIn K (insA K c) && (PySem.W.plainOver K (insA K c) &&
  (decide (PySem.W.findIn K (.ref (insA K c)) "__setattr__" = some (some (.builtin "object.__setattr__"))) &&
  ((fs.all fun f => decide (PySem.W.findIn K (.ref (insA K c)) f = some none)) &&
  (decide (PySem.W.findIn K (.ref (insA K c)) "__class__" = some (some (.builtin "object.__class__"))) &&
  (decide (PySem.W.specialIn K (.builtin "object.__class__") "__get__" = some (some (.builtin "getset_descriptor.__get__"))) &&
  (decide (PySem.W.takesIn K (.builtin "object.__class__") = some true) &&
  (decide (PySem.W.mroIn K (insA K c) (.type "object") = some true) &&
  ((["int", "bool", "tuple", "list", "str", "dict"].all fun b => decide (PySem.W.kitOne K (.ref (insA K c)) (.type b) = some false)) &&
  ((["NoneType", "int", "bool", "tuple", "list", "str", "dict"].all fun b => decide (PySem.W.kitOne K (.type b) (.ref (insA K c)) = some false)) &&
  (decide (PySem.W.kitOne K (.ref (insA K c)) (.ref (insA K c)) = some true) && PySem.W.notFirst K (insA K c) (.ref (insA K c))))))))))))))
theorem insB_ok {K : PySem.W.Frag} {c : Str} {fs : List Str} (h : insB K c fs = true) : InsK K c fs := by
  unfold insB at h
  simp only [Bool.and_eq_true, decide_eq_true_eq, List.all_eq_true] at h
  obtain ⟨h1, h2, h3, h4, h5, h6, h7, h8, h9, h10, h11, h12, h13, h14⟩ := h
  exact ⟨h1, ⟨h2, h3, h4, h5⟩, h6, h7, h8, h9, h10, h11, h12, h13, h14⟩
theorem kp_ins {C dx : Addr} {fs : List (Str × V)} : Kp (.ins C dx fs) := fun _ h => by cases h
theorem kp_own {x : Addr} : Kp (.own x) := fun _ h => by cases h
mutual
/-- the value v is the data d; nothing of it stands where N says -/
def Rep (K : PySem.W.Frag) (Z : Zn) (N : Addr → Prop) (H : Hp) : D → V → Prop
  | .non, v => v = .non
  | .bl b, v => v = .bl b
  | .int i, v => v = .int i
  | .str x, v => v = .str x
  | .tup ds, v => ∃ a vs, v = .ref a ∧ ((¬ N a ∧ H a = some (.tup vs)) ∨ SqT K NK a vs) ∧ Reps K Z N H ds vs
  | .lst ds, v => ∃ a vs, v = .ref a ∧ ¬ N a ∧ H a = some (.lst vs) ∧ Reps K Z N H ds vs
  | .dct ks ds, v => ∃ a vs, v = .ref a ∧ ¬ N a ∧ H a = some (.dK (ks.zip vs)) ∧ ks.length = vs.length ∧ Reps K Z N H ds vs
  | .deck, v => ∃ a l, Z.deck = some (a, l) ∧ v = .ref a
  | .ty n, v => v = .ty n
  | .kt ds, v => ∃ a vs o, v = .ref a ∧ ¬ N a ∧ H a = some (.frz o (.tup vs)) ∧ o.dict = none ∧ Reps K Z N H ds vs
  | .ins c fs ds, v => ∃ a dx vs, v = .ref a ∧ ¬ N a ∧ H a = some (.ins (insA K c) dx (fs.zip vs)) ∧ fs.length = vs.length ∧ InsK K c fs ∧ Reps K Z N H ds vs
def Reps (K : PySem.W.Frag) (Z : Zn) (N : Addr → Prop) (H : Hp) : List D → List V → Prop
  | [], vs => vs = []
  | d :: ds, vs => ∃ v r, vs = v :: r ∧ Rep K Z N H d v ∧ Reps K Z N H ds r
end
section
variable {K : PySem.W.Frag} {Z : Zn} {N N' : Addr → Prop} {H H' : Hp}
mutual
theorem Rep.mono (hk : ∀ p o, ¬ N p → Kp o → H p = some o → H' p = some o ∧ ¬ N' p) : ∀ (d : D) (v : V), Rep K Z N H d v → Rep K Z N' H' d v
  | .non, _, h => h
  | .bl _, _, h => h
  | .int _, _, h => h
  | .str _, _, h => h
  | .tup ds, v, h => by
    obtain ⟨a, vs, e, r, q⟩ := h
    refine ⟨a, vs, e, ?_, Reps.mono hk ds vs q⟩
    rcases r with ⟨n, r⟩ | r
    · obtain ⟨r', n'⟩ := hk _ _ n kp_tup r
      exact .inl ⟨n', r'⟩
    · exact .inr r
  | .lst ds, v, h => by
    obtain ⟨a, vs, e, n, r, q⟩ := h
    obtain ⟨r', n'⟩ := hk _ _ n kp_lst r
    exact ⟨a, vs, e, n', r', Reps.mono hk ds vs q⟩
  | .dct ks ds, v, h => by
    obtain ⟨a, vs, e, n, r, l, q⟩ := h
    obtain ⟨r', n'⟩ := hk _ _ n kp_dk r
    exact ⟨a, vs, e, n', r', l, Reps.mono hk ds vs q⟩
  | .deck, _, h => h
  | .ty _, _, h => h
  | .kt ds, v, h => by
    obtain ⟨a, vs, o, e, n, r, d, q⟩ := h
    obtain ⟨r', n'⟩ := hk _ _ n kp_frz r
    exact ⟨a, vs, o, e, n', r', d, Reps.mono hk ds vs q⟩
  | .ins c fs ds, v, h => by
    obtain ⟨a, dx, vs, e, n, r, l, i, q⟩ := h
    obtain ⟨r', n'⟩ := hk _ _ n kp_ins r
    exact ⟨a, dx, vs, e, n', r', l, i, Reps.mono hk ds vs q⟩
theorem Reps.mono (hk : ∀ p o, ¬ N p → Kp o → H p = some o → H' p = some o ∧ ¬ N' p) : ∀ (ds : List D) (vs : List V), Reps K Z N H ds vs → Reps K Z N' H' ds vs
  | [], _, h => h
  | d :: ds, vs, h => by
    obtain ⟨v, r, e, h1, h2⟩ := h
    exact ⟨v, r, e, Rep.mono hk d v h1, Reps.mono hk ds r h2⟩
end
theorem Rep.ext {d : D} {v : V} (e : Ext Z H H') (hz : ∀ p, InZ Z p → N p) (h : Rep K Z N H d v) : Rep K Z N H' d v :=
  Rep.mono (fun p o n k q => ⟨e.keep p o (fun z => n (hz p z)) k q, n⟩) d v h
theorem Reps.ext {ds : List D} {vs : List V} (e : Ext Z H H') (hz : ∀ p, InZ Z p → N p) (h : Reps K Z N H ds vs) : Reps K Z N H' ds vs :=
  Reps.mono (fun p o n k q => ⟨e.keep p o (fun z => n (hz p z)) k q, n⟩) ds vs h
theorem Rep.less {d : D} {v : V} (hn : ∀ p, N' p → N p) (h : Rep K Z N H d v) : Rep K Z N' H d v :=
  Rep.mono (fun p o n _ q => ⟨q, fun z => n (hn p z)⟩) d v h
theorem Reps.less {ds : List D} {vs : List V} (hn : ∀ p, N' p → N p) (h : Reps K Z N H ds vs) : Reps K Z N' H ds vs :=
  Reps.mono (fun p o n _ q => ⟨q, fun z => n (hn p z)⟩) ds vs h
theorem Reps.length : ∀ {ds : List D} {vs : List V}, Reps K Z N H ds vs → ds.length = vs.length
  | [], _, h => by cases h; rfl
  | d :: ds, _, ⟨v, r, e, _, q⟩ => by subst e; simp [Reps.length q]
theorem Reps.get : ∀ {ds : List D} {vs : List V} {i : Nat} {d : D}, Reps K Z N H ds vs → ds[i]? = some d → ∃ v, vs[i]? = some v ∧ Rep K Z N H d v
  | [], _, _, _, _, e => by simp at e
  | x :: ds, _, 0, d, ⟨v, r, e, h, _⟩, g => by subst e; simp at g; subst g; exact ⟨v, rfl, h⟩
  | x :: ds, _, i + 1, d, ⟨v, r, e, _, q⟩, g => by
    subst e
    obtain ⟨w, h1, h2⟩ := Reps.get (i := i) q (by simpa using g)
    exact ⟨w, by simpa using h1, h2⟩
theorem Reps.getV : ∀ {ds : List D} {vs : List V} {i : Nat} {v : V}, Reps K Z N H ds vs → vs[i]? = some v → ∃ d, ds[i]? = some d ∧ Rep K Z N H d v
  | [], _, _, _, h, e => by cases h; simp at e
  | x :: ds, _, 0, v, ⟨w, r, e, h, _⟩, g => by subst e; simp at g; subst g; exact ⟨x, rfl, h⟩
  | x :: ds, _, i + 1, v, ⟨w, r, e, _, q⟩, g => by
    subst e
    obtain ⟨d, h1, h2⟩ := Reps.getV (i := i) q (by simpa using g)
    exact ⟨d, by simpa using h1, h2⟩
theorem Reps.append : ∀ {ds es : List D} {vs ws : List V}, Reps K Z N H ds vs → Reps K Z N H es ws → Reps K Z N H (ds ++ es) (vs ++ ws)
  | [], _, _, _, h, q => by cases h; exact q
  | d :: ds, _, _, _, ⟨v, r, e, h1, h2⟩, q => by subst e; exact ⟨v, _, rfl, h1, Reps.append h2 q⟩
theorem Reps.snoc {ds : List D} {d : D} {vs : List V} {v : V} (h : Reps K Z N H ds vs) (q : Rep K Z N H d v) : Reps K Z N H (ds ++ [d]) (vs ++ [v]) :=
  h.append ⟨v, [], rfl, q, rfl⟩
theorem Reps.take : ∀ {ds : List D} {vs : List V} (n : Nat), Reps K Z N H ds vs → Reps K Z N H (ds.take n) (vs.take n)
  | _, _, 0, _ => by simp [Reps]
  | [], _, n + 1, h => by cases h; simp [Reps]
  | d :: ds, _, n + 1, ⟨v, r, e, h1, h2⟩ => by subst e; exact ⟨v, _, rfl, h1, Reps.take n h2⟩
theorem Reps.drop : ∀ {ds : List D} {vs : List V} (n : Nat), Reps K Z N H ds vs → Reps K Z N H (ds.drop n) (vs.drop n)
  | _, _, 0, h => h
  | [], _, n + 1, h => by cases h; simp [Reps]
  | d :: ds, _, n + 1, ⟨v, r, e, h1, h2⟩ => by subst e; exact Reps.drop n h2
theorem Reps.ints : ∀ {ns : List Int} {vs : List V}, Reps K Z N H (ns.map D.int) vs → vs = ns.map V.int
  | [], _, h => h
  | n :: ns, _, ⟨v, r, e, h1, h2⟩ => by subst e; rw [show v = V.int n from h1, Reps.ints h2]; rfl
theorem Reps.bls : ∀ {ns : List Bool} {vs : List V}, Reps K Z N H (ns.map D.bl) vs → vs = ns.map V.bl
  | [], _, h => h
  | n :: ns, _, ⟨v, r, e, h1, h2⟩ => by subst e; rw [show v = V.bl n from h1, Reps.bls h2]; rfl
end

/-! ### the state of a def's body -/
/-- an exception as data: its class, what it bears -/
structure DX where
  cls : Str
  fs : List (Str × D)
/-- a slot: unassigned, data, a list of the def's own that it may change -/
inductive Slot where
  | un
  | d (x : D)
  | own (xs : List D)
  | raw (v : V)
abbrev SE := List Slot
structure FP where
  K : PySem.W.Frag
  Z : Zn
  B : Addr → Prop
  H0 : Hp
  ex : DX → SE → Prop
  N1 : Addr → Prop
  H1 : Hp
def SlotOk (F : FP) (N : Addr → Prop) (H : Hp) (o : Option (Option V)) : Slot → Prop
  | .un => True
  | .d x => ∃ v, o = some (some v) ∧ Rep F.K F.Z N H x v
  | .own xs => ∃ p vs, o = some (some (.ref p)) ∧ N p ∧ ¬ F.B p ∧ H p = some (.lst vs) ∧ Reps F.K F.Z N H xs vs
  | .raw v => o = some (some v)
/-- what was frozen is so still -/
def Evo (N : Addr → Prop) (H : Hp) (N' : Addr → Prop) (H' : Hp) : Prop := ∀ p o, ¬ N p → Kp o → H p = some o → H' p = some o ∧ ¬ N' p
theorem Evo.refl {N : Addr → Prop} {H : Hp} : Evo N H N H := fun _ _ n _ h => ⟨h, n⟩
theorem Evo.trans {N N1 N2 : Addr → Prop} {H H1 H2 : Hp} (a : Evo N H N1 H1) (b : Evo N1 H1 N2 H2) : Evo N H N2 H2 := fun p o n k h =>
  let ⟨h1, n1⟩ := a p o n k h
  b p o n1 k h1
structure NOk (F : FP) (N : Addr → Prop) (H : Hp) : Prop where
  deck : DeckOk F.Z H
  ext : Ext F.Z F.H0 H
  sub : ∀ p, F.B p → N p
  zin : ∀ p, InZ F.Z p → F.B p
  all : ∀ p, N p → ∃ o, H p = some o ∧ Kp o
  new : ∀ p, N p → ¬ F.B p → ∀ o, Kp o → F.H0 p = some o → False
  gr : Evo F.N1 F.H1 N H
  tb : F.Z.tabs = tabsOf F.K
structure FOk (F : FP) (N : Addr → Prop) (σ : St) (H : Hp) (env : SE) : Prop where
  n : NOk F N H
  len : σ.length = env.length
  slot : ∀ (i : Nat) s, env[i]? = some s → SlotOk F N H σ[i]? s
  apart : ∀ (i j : Nat) p xs ys, i ≠ j → env[i]? = some (.own xs) → env[j]? = some (.own ys) → σ[i]? = some (some (.ref p)) → σ[j]? = some (some (.ref p)) → False
section
variable {F : FP} {N : Addr → Prop} {σ : St} {H H' : Hp} {env : SE}
theorem NOk.z (n : NOk F N H) (p : Addr) (h : InZ F.Z p) : N p := n.sub p (n.zin p h)
theorem NOk.ext' (n : NOk F N H) (e : Ext F.Z H H') : NOk F N H' where
  deck := e.deck n.deck
  ext := n.ext.trans e
  sub := n.sub
  zin := n.zin
  all := fun p h => by
    by_cases z : InZ F.Z p
    · obtain ⟨a, l, e1, e2⟩ := z
      obtain ⟨xs, m, k, h1, h2, _⟩ := (e.deck n.deck).1 a l e1
      rcases e2 with e2 | e2
      · rw [e2]; exact ⟨_, h1, kp_dk⟩
      · rw [e2]; exact ⟨_, h2, kp_lst⟩
    · obtain ⟨o, q, k⟩ := n.all p h
      exact ⟨o, e.keep p o z k q, k⟩
  new := n.new
  gr := n.gr.trans fun p o np k h => ⟨e.keep p o (fun z => np (n.z p z)) k h, np⟩
  tb := n.tb
theorem SlotOk.ext (n : NOk F N H) (e : Ext F.Z H H') {o : Option (Option V)} : ∀ {s : Slot}, SlotOk F N H o s → SlotOk F N H' o s
  | .un, _ => trivial
  | .d x, ⟨v, h1, h2⟩ => ⟨v, h1, h2.ext e n.z⟩
  | .own xs, ⟨p, vs, h1, h2, h3, h4, h5⟩ => ⟨p, vs, h1, h2, h3, e.keep p _ (fun z => h3 (n.zin p z)) kp_lst h4, h5.ext e n.z⟩
  | .raw v, h => h
theorem FOk.ext' (f : FOk F N σ H env) (e : Ext F.Z H H') : FOk F N σ H' env :=
  ⟨f.n.ext' e, f.len, fun i s q => (f.slot i s q).ext f.n e, f.apart⟩
/-- a new thing -/
theorem NOk.fresh (n : NOk F N H) {p : Addr} (h : H p = none) : ¬ N p := fun q => by
  obtain ⟨o, e, _⟩ := n.all p q
  rw [h] at e; cases e
theorem NOk.new0 (n : NOk F N H) {p : Addr} (h : H p = none) : ∀ o, Kp o → F.H0 p = some o → False := fun o k e => by
  rw [n.ext.keep p o (fun z => n.fresh h (n.z p z)) k e] at h
  cases h
theorem deck_mono {Z : Zn} {H H' : Hp} (k : ∀ q u, H q = some u → H' q = some u) (dk : DeckOk Z H) : DeckOk Z H' :=
  ⟨fun a l e => let ⟨xs, m, c, h1, h2, h3⟩ := dk.1 a l e; ⟨xs, m, c, k _ _ h1, k _ _ h2, h3⟩, dk.2.ext k⟩
theorem Ext.of_mono {Z : Zn} {H H' : Hp} (k : ∀ q u, H q = some u → H' q = some u) : Ext Z H H' := ⟨fun q u _ _ e => k q u e, deck_mono k⟩
theorem NOk.lay (n : NOk F N H) {p : Addr} {o : HO} (h : H p = none) : Ext F.Z H (upd H p o) :=
  .of_mono fun q u e => by rw [upd_ne (ne_of_none e h)]; exact e
end

/-! ### readings over data -/
abbrev XW := DX → SE → Prop
abbrev TDE := XW → SE → (D → Prop) → Prop
abbrev TDT := XW → SE → (Bool → Prop) → Prop
abbrev TDA := XW → SE → (List D → Prop) → Prop
structure DEnds where
  nx : SE → Prop
  rt : D → Prop
  bk : SE → Prop := fun _ => False
  ct : SE → Prop := fun _ => False
abbrev TDS := XW → DEnds → SE → Prop
def tD (F : FP) (T : TDE) : TE := fun σ H Q => ∃ N env Qd, FOk F N σ H env ∧ T F.ex env Qd ∧ ∀ v H' d, Ext F.Z H H' → Rep F.K F.Z N H' d v → Qd d → Q v H'
def tDT (F : FP) (T : TDT) : TT := fun σ H Q => ∃ N env Qd, FOk F N σ H env ∧ T F.ex env Qd ∧ ∀ b H', Ext F.Z H H' → Qd b → Q b H'
def tDA (F : FP) (T : TDA) : TA := fun σ H Q => ∃ N env Qd, FOk F N σ H env ∧ T F.ex env Qd ∧ ∀ vs H' ds, Ext F.Z H H' → Reps F.K F.Z N H' ds vs → Qd ds → Q vs H'
theorem Evo.of {F : FP} {N : Addr → Prop} {H H' : Hp} (n : NOk F N H) (e : Ext F.Z H H') : Evo N H N H' := fun p o np k h => ⟨e.keep p o (fun z => np (n.z p z)) k h, np⟩
/-- what a body's ends mean below -/
structure EndsOk (F : FP) (N0 : Addr → Prop) (H0 : Hp) (Dd : DEnds) (De : Ends) : Prop where
  nx : ∀ N σ H env, FOk F N σ H env → Evo N0 H0 N H → Dd.nx env → De.nx σ H
  rt : ∀ v H d, Ext F.Z F.H0 H → Rep F.K F.Z F.B H d v → Dd.rt d → De.rt v H
  bk : ∀ N σ H env, FOk F N σ H env → Evo N0 H0 N H → Dd.bk env → De.bk σ H
  ct : ∀ N σ H env, FOk F N σ H env → Evo N0 H0 N H → Dd.ct env → De.ct σ H
def sD (F : FP) (T : TDS) : TS := fun De σ H => ∃ N env Dd, FOk F N σ H env ∧ T F.ex Dd env ∧ EndsOk F N H Dd De

section
variable {X : Cx} {e : Expr} {es : List Expr} {st : Stmt} {sts : List Stmt}
theorem PE.imp {t t' : TE} (h : PE X e t) (hi : ∀ σ H Q, t' σ H Q → t σ H Q) : PE X e t' := ⟨fun pins s σ H Q I hw => h.run pins s σ H Q I (hi _ _ _ hw)⟩
theorem PT.imp {t t' : TT} (h : PT X e t) (hi : ∀ σ H Q, t' σ H Q → t σ H Q) : PT X e t' := ⟨fun pins s σ H Q I hw => h.run pins s σ H Q I (hi _ _ _ hw)⟩
theorem PW.imp {t t' : TT} (h : PW X e t) (hi : ∀ σ H Q, t' σ H Q → t σ H Q) : PW X e t' := ⟨fun wh pins s σ H Q I hw => h.run wh pins s σ H Q I (hi _ _ _ hw)⟩
theorem PA.imp {t t' : TA} (h : PA X es t) (hi : ∀ σ H Q, t' σ H Q → t σ H Q) : PA X es t' := ⟨fun pos pins s σ H Q I hw => h.run pos pins s σ H Q I (hi _ _ _ hw)⟩
theorem PS.imp {t t' : TS} (h : PS X st t) (hi : ∀ De σ H, t' De σ H → t De σ H) : PS X st t' := ⟨fun pins s σ H De I hw => h.run pins s σ H De I (hi _ _ _ hw)⟩
theorem PSs.imp {t t' : TS} (h : PSs X sts t) (hi : ∀ De σ H, t' De σ H → t De σ H) : PSs X sts t' := ⟨fun pins s σ H De I hw => h.run pins s σ H De I (hi _ _ _ hw)⟩
end
end DL
set_option Elab.async false
set_option linter.all false
set_option maxRecDepth 100000
namespace DL
open PySem PySem.Spec L2
open PyProof.Rows hiding St

section
variable {K : PySem.W.Frag} {Z : Zn} {N : Addr → Prop} {H : Hp}
theorem rep_int {i : Int} : Rep K Z N H (.int i) (.int i) := rfl
theorem rep_bl {i : Bool} : Rep K Z N H (.bl i) (.bl i) := rfl
theorem rep_str {i : Str} : Rep K Z N H (.str i) (.str i) := rfl
theorem rep_non : Rep K Z N H .non .non := rfl
end
section
variable {X : Cx} {F : FP} {e a b c : Expr} {es : List Expr} {pos : Pos} {Ta Tb Tc : TDE} {Tas : TDA}

/-! ### names, constants -/
def dVar (i : Nat) : TDE := fun _ env Q => match env[i]? with
  | some (.d x) => Q x
  | _ => False
theorem d_var {i : Nat} (h : PE X e (tVar i)) : PE X e (tD F (dVar i)) := PE.imp h (by
  rintro σ H Q ⟨N, env, Qd, f, hT, k⟩
  unfold dVar at hT
  split at hT
  · rename_i x hx
    obtain ⟨v, e1, r⟩ := f.slot i _ hx
    exact ⟨v, e1, k v H x Ext.refl r hT⟩
  · exact hT.elim)
def dC (d : D) : TDE := fun _ _ Q => Q d
theorem d_const {v : V} {d : D} (h : PE X e (tC v)) (hr : ∀ N H, Rep F.K F.Z N H d v) : PE X e (tD F (dC d)) := PE.imp h (by
  rintro σ H Q ⟨N, env, Qd, f, hT, k⟩
  exact k v H d Ext.refl (hr N H) hT)
theorem d_int {i : Int} {j} : PE X (.Constant (.int i) j pos) (tD F (dC (.int i))) := d_const pe_int fun _ _ => rfl
theorem d_bl {i : Bool} {j} : PE X (.Constant (.bool i) j pos) (tD F (dC (.bl i))) := d_const pe_bl fun _ _ => rfl
theorem d_non {j} : PE X (.Constant .none j pos) (tD F (dC .non)) := d_const pe_non fun _ _ => rfl
theorem d_str {i : Str} {j} : PE X (.Constant (.str i) j pos) (tD F (dC (.str i))) := d_const pe_str fun _ _ => rfl

/-! ### operators -/
abbrev G2 := D → D → (D → Prop) → Prop
structure OpD (F : FP) (r : R2) (g : G2) : Prop where
  ok : ∀ N H x y dx dy Qd (Q : VK), NOk F N H → Rep F.K F.Z N H dx x → Rep F.K F.Z N H dy y → g dx dy Qd → (∀ v H' d, Ext F.Z H H' → Rep F.K F.Z N H' d v → Qd d → Q v H') → r x y H Q
def dBin (g : G2) (Ta Tb : TDE) : TDE := fun ξ env Q => Ta ξ env fun x => Tb ξ env fun y => g x y Q
theorem tOp_imp {r : R2} {g : G2} (hg : OpD F r g) : ∀ σ H Q, tD F (dBin g Ta Tb) σ H Q → tOp r (tD F Ta) (tD F Tb) σ H Q := by
  rintro σ H Q ⟨N, env, Qd, f, hT, k⟩
  refine ⟨N, env, _, f, hT, fun x H1 dx e1 rx q1 => ?_⟩
  refine ⟨N, env, _, f.ext' e1, q1, fun y H2 dy e2 ry q2 => ?_⟩
  exact hg.ok N H2 x y dx dy _ _ ((f.ext' e1).ext' e2).n (rx.ext e2 f.n.z) ry q2 fun v H3 d e3 r3 q3 => k v H3 d ((e1.trans e2).trans e3) r3 q3
theorem d_op {op : Operator} {r : R2} {g : G2} (ho : OpR X (binaryOp op) r) (hg : OpD F r g) (ha : PE X a (tD F Ta)) (hb : PE X b (tD F Tb)) : PE X (.BinOp a op b pos) (tD F (dBin g Ta Tb)) :=
  PE.imp (pe_op ho ha hb) (tOp_imp hg)
theorem d_cmp {op : CmpOp} {r : R2} {g : G2} (ho : OpR X (compareOp op) r) (hg : OpD F r g) (ha : PE X a (tD F Ta)) (hb : PE X b (tD F Tb)) (hm : behindInMarks op b = false) : PE X (.Compare a [op] [b] pos) (tD F (dBin g Ta Tb)) :=
  PE.imp (pe_cmpR ho ha hb hm) (tOp_imp hg)
/-- an expression that tells True or False, as a test -/
def dTest (T : TDE) : TDT := fun ξ env Q => T ξ env fun d => match d with
  | .bl b => Q b
  | _ => False
theorem bl_of {d : D} {Q : Bool → Prop} (h : match d with | .bl b => Q b | _ => False) : ∃ b, d = .bl b ∧ Q b := by
  cases d <;> first | exact ⟨_, rfl, h⟩ | exact h.elim
theorem tTest_imp {T : TDE} {t : TE} (hi : ∀ σ H Q, tD F T σ H Q → t σ H Q) : ∀ σ H Q, tDT F (dTest T) σ H Q → t σ H fun x H' => ∃ k, x = .bl k ∧ Q k H' := by
  rintro σ H Q ⟨N, env, Qd, f, hT, k⟩
  refine hi σ H _ ⟨N, env, _, f, hT, fun v H' d e r q => ?_⟩
  obtain ⟨b, rfl, q⟩ := bl_of q
  exact ⟨b, r, k b H' e q⟩
theorem dt_cmp {op : CmpOp} {r : R2} {g : G2} (ho : OpR X (compareOp op) r) (hg : OpD F r g) (ha : PE X a (tD F Ta)) (hb : PE X b (tD F Tb)) (hm : behindInMarks op b = false) : PT X (.Compare a [op] [b] pos) (tDT F (dTest (dBin g Ta Tb))) :=
  PT.imp (pt_cmpR ho ha hb hm) (tTest_imp (tOp_imp hg))
theorem dt_val (h : PE X e (tD F Ta)) (he : ∀ whole, isTrue e X.env whole = (do let v ← whole; standAt e.pos; holding [v] (truthy v)) := by intro _; rfl) : PT X e (tDT F (dTest Ta)) :=
  PT.imp (pt_val h he) (tTest_imp fun _ _ _ h => h)
/-- an int, a tuple, .. as a test -/
def truD : D → Option Bool
  | .non => some false
  | .bl b => some b
  | .int i => some (i != 0)
  | .tup ds => some (!ds.isEmpty)
  | .lst ds => some (!ds.isEmpty)
  | _ => none
def dTruth (T : TDE) : TDT := fun ξ env Q => T ξ env fun d => match truD d with
  | some b => Q b
  | none => False

/-! ### and, or, not; if -/
def dtAnd (t u : TDT) : TDT := fun ξ env Q => t ξ env fun c => if c = true then u ξ env Q else Q false
def dtOr (t u : TDT) : TDT := fun ξ env Q => t ξ env fun c => if c = true then Q true else u ξ env Q
def dtNot (t : TDT) : TDT := fun ξ env Q => t ξ env fun c => Q (!c)
variable {tA tB' : TDT} {rest : List Expr}
theorem dw_and1 (ha : PT X a (tDT F tA)) : PW X (.BoolOp .And [a] pos) (tDT F tA) := pw_and1 ha
theorem dw_or1 (ha : PT X a (tDT F tA)) : PW X (.BoolOp .Or [a] pos) (tDT F tA) := pw_or1 ha
theorem dw_and (ha : PT X a (tDT F tA)) (hb : PW X (.BoolOp .And (b :: rest) pos) (tDT F tB')) : PW X (.BoolOp .And (a :: b :: rest) pos) (tDT F (dtAnd tA tB')) := PW.imp (pw_and ha hb) (by
  rintro σ H Q ⟨N, env, Qd, f, hT, k⟩
  refine ⟨N, env, _, f, hT, fun c H1 e1 q1 => ?_⟩
  by_cases hc : c = true
  · rw [if_pos hc] at q1 ⊢
    exact ⟨N, env, _, f.ext' e1, q1, fun b H2 e2 q2 => k b H2 (e1.trans e2) q2⟩
  · rw [if_neg hc] at q1 ⊢
    exact k _ _ e1 q1)
theorem dw_or (ha : PT X a (tDT F tA)) (hb : PW X (.BoolOp .Or (b :: rest) pos) (tDT F tB')) : PW X (.BoolOp .Or (a :: b :: rest) pos) (tDT F (dtOr tA tB')) := PW.imp (pw_or ha hb) (by
  rintro σ H Q ⟨N, env, Qd, f, hT, k⟩
  refine ⟨N, env, _, f, hT, fun c H1 e1 q1 => ?_⟩
  by_cases hc : c = true
  · rw [if_pos hc] at q1 ⊢
    exact k _ _ e1 q1
  · rw [if_neg hc] at q1 ⊢
    exact ⟨N, env, _, f.ext' e1, q1, fun b H2 e2 q2 => k b H2 (e1.trans e2) q2⟩)
theorem dt_not (ha : PT X a (tDT F tA)) : PT X (.UnaryOp .Not a pos) (tDT F (dtNot tA)) := PT.imp (pt_not ha) (by
  rintro σ H Q ⟨N, env, Qd, f, hT, k⟩
  exact ⟨N, env, _, f, hT, fun c H1 e1 q1 => k _ H1 e1 q1⟩)
def dAnd (Ta Tb : TDE) : TDE := fun ξ env Q => dTest Ta ξ env fun c => if c = true then Tb ξ env Q else Q (.bl false)
def dOr (Ta Tb : TDE) : TDE := fun ξ env Q => dTest Ta ξ env fun c => if c = true then Q (.bl true) else Tb ξ env Q
def dNot (Ta : TDE) : TDE := fun ξ env Q => dTest Ta ξ env fun c => Q (.bl (!c))
theorem d_one {op} (h : PE X a (tD F Ta)) : PE X (.BoolOp op [a] pos) (tD F Ta) := pe_one h
theorem d_and (ha : PE X a (tD F Ta)) (hb : PE X (.BoolOp .And (b :: rest) pos) (tD F Tb)) : PE X (.BoolOp .And (a :: b :: rest) pos) (tD F (dAnd Ta Tb)) := PE.imp (pe_and ha hb) (by
  rintro σ H Q ⟨N, env, Qd, f, hT, k⟩
  refine ⟨N, env, _, f, hT, fun x H1 dx e1 r1 q1 => ?_⟩
  obtain ⟨c, rfl, q9⟩ := bl_of q1
  refine ⟨c, r1, ?_⟩
  by_cases hc : c = true
  · rw [if_pos hc] at q9 ⊢
    exact ⟨N, env, _, f.ext' e1, q9, fun v H2 d e2 r2 q2 => k v H2 d (e1.trans e2) r2 q2⟩
  · rw [if_neg hc] at q9 ⊢
    exact k _ _ _ e1 rep_bl q9)
theorem d_or (ha : PE X a (tD F Ta)) (hb : PE X (.BoolOp .Or (b :: rest) pos) (tD F Tb)) : PE X (.BoolOp .Or (a :: b :: rest) pos) (tD F (dOr Ta Tb)) := PE.imp (pe_or ha hb) (by
  rintro σ H Q ⟨N, env, Qd, f, hT, k⟩
  refine ⟨N, env, _, f, hT, fun x H1 dx e1 r1 q1 => ?_⟩
  obtain ⟨c, rfl, q9⟩ := bl_of q1
  refine ⟨c, r1, ?_⟩
  by_cases hc : c = true
  · rw [if_pos hc] at q9 ⊢
    exact k _ _ _ e1 rep_bl q9
  · rw [if_neg hc] at q9 ⊢
    exact ⟨N, env, _, f.ext' e1, q9, fun v H2 d e2 r2 q2 => k v H2 d (e1.trans e2) r2 q2⟩)
theorem d_not (ha : PE X a (tD F Ta)) : PE X (.UnaryOp .Not a pos) (tD F (dNot Ta)) := PE.imp (pe_not ha) (by
  rintro σ H Q ⟨N, env, Qd, f, hT, k⟩
  refine ⟨N, env, _, f, hT, fun x H1 dx e1 r1 q1 => ?_⟩
  obtain ⟨c, rfl, q9⟩ := bl_of q1
  exact ⟨c, r1, k _ _ _ e1 rep_bl q9⟩)
def dIf (t : TDT) (Ta Tb : TDE) : TDE := fun ξ env Q => t ξ env fun c => if c = true then Ta ξ env Q else Tb ξ env Q
theorem d_if (hc : PT X c (tDT F tA)) (ha : PE X a (tD F Ta)) (hb : PE X b (tD F Tb)) : PE X (.IfExp c a b pos) (tD F (dIf tA Ta Tb)) := PE.imp (pe_ifExp hc ha hb) (by
  rintro σ H Q ⟨N, env, Qd, f, hT, k⟩
  refine ⟨N, env, _, f, hT, fun c H1 e1 q1 => ?_⟩
  by_cases hc : c = true
  · rw [if_pos hc] at q1 ⊢
    exact ⟨N, env, _, f.ext' e1, q1, fun v H2 d e2 r2 q2 => k v H2 d (e1.trans e2) r2 q2⟩
  · rw [if_neg hc] at q1 ⊢
    exact ⟨N, env, _, f.ext' e1, q1, fun v H2 d e2 r2 q2 => k v H2 d (e1.trans e2) r2 q2⟩)

/-! ### unary -/
abbrev G1 := D → (D → Prop) → Prop
def dUn (g : G1) (Ta : TDE) : TDE := fun ξ env Q => Ta ξ env fun x => g x Q
def gNeg : G1 := fun x Q => match x with
  | .int i => Q (.int (-i))
  | _ => False
theorem d_neg (ha : PE X a (tD F Ta)) : PE X (.UnaryOp .USub a pos) (tD F (dUn gNeg Ta)) := PE.imp (pe_un un_neg ha) (by
  rintro σ H Q ⟨N, env, Qd, f, hT, k⟩
  refine ⟨N, env, _, f, hT, fun x H1 dx e1 r1 q1 => ?_⟩
  cases dx <;> first | exact q1.elim | exact ⟨_, r1, k _ _ _ e1 rep_int q1⟩)

/-! ### the operators of ints -/
def gI (C : Int → Int → Prop) (g : Int → Int → D) : G2 := fun x y Q => match x, y with
  | .int i, .int j => C i j ∧ Q (g i j)
  | _, _ => False
def gI0 (g : Int → Int → D) : G2 := fun x y Q => match x, y with
  | .int i, .int j => Q (g i j)
  | _, _ => False
theorem gI_of {C : Int → Int → Prop} {g : Int → Int → D} {x y : D} {Q : D → Prop} (h : gI C g x y Q) : ∃ i j, x = .int i ∧ y = .int j ∧ C i j ∧ Q (g i j) := by
  unfold gI at h
  split at h
  · exact ⟨_, _, rfl, rfl, h⟩
  · exact h.elim
theorem gI0_of {g : Int → Int → D} {x y : D} {Q : D → Prop} (h : gI0 g x y Q) : ∃ i j, x = .int i ∧ y = .int j ∧ Q (g i j) := by
  unfold gI0 at h
  split at h
  · exact ⟨_, _, rfl, rfl, h⟩
  · exact h.elim
theorem opd_I {C : Int → Int → Prop} {g : Int → Int → D} {gv : Int → Int → V} (hg : ∀ i j N H, Rep F.K F.Z N H (g i j) (gv i j)) : OpD F (rI C gv) (gI C g) := ⟨by
  intro N H x y dx dy Qd Q n rx ry h k
  obtain ⟨i, j, rfl, rfl, c, q⟩ := gI_of h
  exact ⟨i, j, rx, ry, c, k _ _ _ Ext.refl (hg i j N H) q⟩⟩
theorem opd_I0 {g : Int → Int → D} {gv : Int → Int → V} (hg : ∀ i j N H, Rep F.K F.Z N H (g i j) (gv i j)) : OpD F (rI0 gv) (gI0 g) := ⟨by
  intro N H x y dx dy Qd Q n rx ry h k
  obtain ⟨i, j, rfl, rfl, q⟩ := gI0_of h
  exact ⟨i, j, rx, ry, k _ _ _ Ext.refl (hg i j N H) q⟩⟩
abbrev gAdd : G2 := gI0 fun i j => .int (i + j)
abbrev gSub : G2 := gI0 fun i j => .int (i - j)
abbrev gMul : G2 := gI CMulW fun i j => .int (i * j)
abbrev gDiv : G2 := gI CDivW fun i j => .int (i / j)
abbrev gMod : G2 := gI (fun _ j => 0 < j) fun i j => .int (i % j)
abbrev gPow : G2 := gI CPow fun i j => .int (i ^ j.toNat)
abbrev gLt : G2 := gI0 fun i j => .bl (decide (i < j))
abbrev gLe : G2 := gI0 fun i j => .bl (decide (i ≤ j))
abbrev gGt : G2 := gI0 fun i j => .bl (decide (j < i))
abbrev gGe : G2 := gI0 fun i j => .bl (decide (j ≤ i))
theorem d_add (ha : PE X a (tD F Ta)) (hb : PE X b (tD F Tb)) : PE X (.BinOp a .Add b pos) (tD F (dBin gAdd Ta Tb)) := d_op op_add (opd_I0 fun _ _ _ _ => rfl) ha hb
theorem d_sub (ha : PE X a (tD F Ta)) (hb : PE X b (tD F Tb)) : PE X (.BinOp a .Sub b pos) (tD F (dBin gSub Ta Tb)) := d_op op_sub (opd_I0 fun _ _ _ _ => rfl) ha hb
theorem d_mul (ha : PE X a (tD F Ta)) (hb : PE X b (tD F Tb)) : PE X (.BinOp a .Mult b pos) (tD F (dBin gMul Ta Tb)) := d_op op_mulW (opd_I fun _ _ _ _ => rfl) ha hb
theorem d_div (ha : PE X a (tD F Ta)) (hb : PE X b (tD F Tb)) : PE X (.BinOp a .FloorDiv b pos) (tD F (dBin gDiv Ta Tb)) := d_op op_fdivW (opd_I fun _ _ _ _ => rfl) ha hb
theorem d_mod (ha : PE X a (tD F Ta)) (hb : PE X b (tD F Tb)) : PE X (.BinOp a .Mod b pos) (tD F (dBin gMod Ta Tb)) := d_op op_mod (opd_I fun _ _ _ _ => rfl) ha hb
theorem d_pow (ha : PE X a (tD F Ta)) (hb : PE X b (tD F Tb)) : PE X (.BinOp a .Pow b pos) (tD F (dBin gPow Ta Tb)) := d_op op_pow (opd_I fun _ _ _ _ => rfl) ha hb
theorem d_lt (ha : PE X a (tD F Ta)) (hb : PE X b (tD F Tb)) : PE X (.Compare a [.Lt] [b] pos) (tD F (dBin gLt Ta Tb)) := d_cmp op_lt (opd_I0 fun _ _ _ _ => rfl) ha hb (nomark _)
theorem d_le (ha : PE X a (tD F Ta)) (hb : PE X b (tD F Tb)) : PE X (.Compare a [.LtE] [b] pos) (tD F (dBin gLe Ta Tb)) := d_cmp op_le (opd_I0 fun _ _ _ _ => rfl) ha hb (nomark _)
theorem d_gt (ha : PE X a (tD F Ta)) (hb : PE X b (tD F Tb)) : PE X (.Compare a [.Gt] [b] pos) (tD F (dBin gGt Ta Tb)) := d_cmp op_gt (opd_I0 fun _ _ _ _ => rfl) ha hb (nomark _)
theorem d_ge (ha : PE X a (tD F Ta)) (hb : PE X b (tD F Tb)) : PE X (.Compare a [.GtE] [b] pos) (tD F (dBin gGe Ta Tb)) := d_cmp op_ge (opd_I0 fun _ _ _ _ => rfl) ha hb (nomark _)
theorem dt_lt (ha : PE X a (tD F Ta)) (hb : PE X b (tD F Tb)) : PT X (.Compare a [.Lt] [b] pos) (tDT F (dTest (dBin gLt Ta Tb))) := dt_cmp op_lt (opd_I0 fun _ _ _ _ => rfl) ha hb (nomark _)
theorem dt_le (ha : PE X a (tD F Ta)) (hb : PE X b (tD F Tb)) : PT X (.Compare a [.LtE] [b] pos) (tDT F (dTest (dBin gLe Ta Tb))) := dt_cmp op_le (opd_I0 fun _ _ _ _ => rfl) ha hb (nomark _)
theorem dt_gt (ha : PE X a (tD F Ta)) (hb : PE X b (tD F Tb)) : PT X (.Compare a [.Gt] [b] pos) (tDT F (dTest (dBin gGt Ta Tb))) := dt_cmp op_gt (opd_I0 fun _ _ _ _ => rfl) ha hb (nomark _)
theorem dt_ge (ha : PE X a (tD F Ta)) (hb : PE X b (tD F Tb)) : PT X (.Compare a [.GtE] [b] pos) (tDT F (dTest (dBin gGe Ta Tb))) := dt_cmp op_ge (opd_I0 fun _ _ _ _ => rfl) ha hb (nomark _)

/-! ### == -/
mutual
/-- the library's data -/
def toP : D → PyData
  | .non => .none
  | .bl b => .bool b
  | .int i => .int i
  | .str x => .str x
  | .tup ds => .tuple (toPs ds)
  | .lst ds => .list (toPs ds)
  | .dct ks ds => .dict (toPk ks ds)
  | .deck => .none
  | .ty _ => .none
  | .kt ds => .tuple (toPs ds)
  | .ins _ _ _ => .none
def toPs : List D → List PyData
  | [] => []
  | d :: ds => toP d :: toPs ds
def toPk : List Key → List D → List (PyData × PyData)
  | k :: ks, d :: ds => ((match k with | .inl i => PyData.int i | .inr x => PyData.str x), toP d) :: toPk ks ds
  | _, _ => []
end
mutual
def plain : D → Bool
  | .tup ds => plains ds
  | .lst ds => plains ds
  | .dct _ _ => false
  | .deck => false
  | .ty _ => false
  | .kt ds => plains ds
  | .ins _ _ _ => false
  | _ => true
def plains : List D → Bool
  | [] => true
  | d :: ds => plain d && plains ds
end
section
variable {K : PySem.W.Frag} {Z : Zn} {N : Addr → Prop} {H : Hp}
theorem sqt_of {a : Addr} {vs : List V} (h : (¬ N a ∧ H a = some (.tup vs)) ∨ SqT K NK a vs) : SqT K H a vs := by
  rcases h with ⟨_, h⟩ | h
  · exact .inl (.inl h)
  · rcases h with (h | ⟨o, h⟩) | h
    · cases h
    · cases h
    · exact .inr h
mutual
theorem Rep.dp : ∀ (d : D) (v : V), plain d = true → Rep K Z N H d v → Dp K H v (toP d)
  | .non, _, _, h => by rw [show _ = V.non from h]; exact .non
  | .bl b, _, _, h => by rw [show _ = V.bl b from h]; exact .bl b
  | .int i, _, _, h => by rw [show _ = V.int i from h]; exact .int i
  | .str x, _, _, h => by rw [show _ = V.str x from h]; exact .str x
  | .tup ds, _, p, h => by
    obtain ⟨a, vs, rfl, r, q⟩ := h
    exact .tup (sqt_of r) (Reps.dp ds vs p q)
  | .lst ds, _, p, h => by
    obtain ⟨a, vs, rfl, _, r, q⟩ := h
    exact .lst (SqL.of r) (Reps.dp ds vs p q)
  | .dct _ _, _, p, _ => by cases p
  | .deck, _, p, _ => by cases p
  | .ty _, _, p, _ => by cases p
  | .ins _ _ _, _, p, _ => by cases p
  | .kt ds, _, p, h => by
    obtain ⟨a, vs, o, rfl, _, r, _, q⟩ := h
    exact .tup (.inl (.inr ⟨o, r⟩)) (Reps.dp ds vs p q)
theorem Reps.dp : ∀ (ds : List D) (vs : List V), plains ds = true → Reps K Z N H ds vs → DpAll K H vs (toPs ds)
  | [], _, _, h => by cases h; exact .nil
  | d :: ds, _, p, h => by
    obtain ⟨v, r, rfl, h1, h2⟩ := h
    obtain ⟨p1, p2⟩ := Bool.and_eq_true_iff.mp p
    exact .cons (Rep.dp d v p1 h1) (Reps.dp ds r p2 h2)
end
end
/-- data that can be compared -/
def eqOk (d : D) : Bool := plain d && SeqAt.shaped (toP d)
def gEq : G2 := fun x y Q => match x, y with
  | .int i, .int j => Q (.bl (decide (i = j)))
  | .str i, .str j => Q (.bl (decide (i = j)))
  | x, y => (eqOk x = true ∧ eqOk y = true) ∧ Q (.bl (PyData.eqv (toP x) (toP y)))
def gNe : G2 := fun x y Q => match x, y with
  | .int i, .int j => Q (.bl (!decide (i = j)))
  | .str i, .str j => Q (.bl (!decide (i = j)))
  | x, y => (eqOk x = true ∧ eqOk y = true) ∧ Q (.bl (!PyData.eqv (toP x) (toP y)))
theorem opd_eq : OpD F (fun x y H Q => rEqD F.K x y H Q ∨ rEq x y H Q) gEq := ⟨by
  intro N H x y dx dy Qd Q n rx ry h k
  unfold gEq at h
  split at h
  · rename_i i j
    cases (show x = .int i from rx)
    cases (show y = .int j from ry)
    refine .inr ⟨rfl, k _ _ _ Ext.refl rep_bl ?_⟩
    rw [dec_int, Bool.beq_eq_decide_eq]
    exact h
  · rename_i i j
    cases (show x = .str i from rx)
    cases (show y = .str j from ry)
    refine .inr ⟨rfl, k _ _ _ Ext.refl rep_bl ?_⟩
    rw [dec_str, Bool.beq_eq_decide_eq]
    exact h
  · obtain ⟨⟨h1, h2⟩, q⟩ := h
    obtain ⟨p1, s1⟩ := Bool.and_eq_true_iff.mp h1
    obtain ⟨p2, s2⟩ := Bool.and_eq_true_iff.mp h2
    exact .inl ⟨_, _, Rep.dp dx x p1 rx, Rep.dp dy y p2 ry, s1, s2, k _ _ _ Ext.refl rep_bl q⟩⟩
theorem opd_ne : OpD F (fun x y H Q => rNeD F.K x y H Q ∨ rNe x y H Q) gNe := ⟨by
  intro N H x y dx dy Qd Q n rx ry h k
  unfold gNe at h
  split at h
  · rename_i i j
    cases (show x = .int i from rx)
    cases (show y = .int j from ry)
    refine .inr ⟨rfl, k _ _ _ Ext.refl rep_bl ?_⟩
    rw [dec_int, Bool.beq_eq_decide_eq]
    exact h
  · rename_i i j
    cases (show x = .str i from rx)
    cases (show y = .str j from ry)
    refine .inr ⟨rfl, k _ _ _ Ext.refl rep_bl ?_⟩
    rw [dec_str, Bool.beq_eq_decide_eq]
    exact h
  · obtain ⟨⟨h1, h2⟩, q⟩ := h
    obtain ⟨p1, s1⟩ := Bool.and_eq_true_iff.mp h1
    obtain ⟨p2, s2⟩ := Bool.and_eq_true_iff.mp h2
    exact .inl ⟨_, _, Rep.dp dx x p1 rx, Rep.dp dy y p2 ry, s1, s2, k _ _ _ Ext.refl rep_bl q⟩⟩
theorem d_eq (hK : F.K = X.K) (hu : X.A.units + 64 < cLine) (ha : PE X a (tD F Ta)) (hb : PE X b (tD F Tb)) : PE X (.Compare a [.Eq] [b] pos) (tD F (dBin gEq Ta Tb)) := by
  have o := opd_eq (F := F)
  rw [hK] at o
  exact d_cmp ((op_eqD hu).or op_eq) o ha hb (nomark _)
theorem d_ne (hK : F.K = X.K) (hu : X.A.units + 64 < cLine) (ha : PE X a (tD F Ta)) (hb : PE X b (tD F Tb)) : PE X (.Compare a [.NotEq] [b] pos) (tD F (dBin gNe Ta Tb)) := by
  have o := opd_ne (F := F)
  rw [hK] at o
  exact d_cmp ((op_neD hu).or op_ne) o ha hb (nomark _)
theorem dt_eq (hK : F.K = X.K) (hu : X.A.units + 64 < cLine) (ha : PE X a (tD F Ta)) (hb : PE X b (tD F Tb)) : PT X (.Compare a [.Eq] [b] pos) (tDT F (dTest (dBin gEq Ta Tb))) := by
  have o := opd_eq (F := F)
  rw [hK] at o
  exact dt_cmp ((op_eqD hu).or op_eq) o ha hb (nomark _)
theorem dt_ne (hK : F.K = X.K) (hu : X.A.units + 64 < cLine) (ha : PE X a (tD F Ta)) (hb : PE X b (tD F Tb)) : PT X (.Compare a [.NotEq] [b] pos) (tDT F (dTest (dBin gNe Ta Tb))) := by
  have o := opd_ne (F := F)
  rw [hK] at o
  exact dt_cmp ((op_neD hu).or op_ne) o ha hb (nomark _)

/-! ### argument lists, displays -/
def dNil : TDA := fun _ _ Q => Q []
def dCons (Ta : TDE) (Tr : TDA) : TDA := fun ξ env Q => Ta ξ env fun x => Tr ξ env fun xs => Q (x :: xs)
theorem da_nil : PA X [] (tDA F dNil) := PA.imp pa_nil (by
  rintro σ H Q ⟨N, env, Qd, f, hT, k⟩
  exact k [] H [] Ext.refl rfl hT)
theorem tCons_imp {Tr : TDA} : ∀ σ H Q, tDA F (dCons Ta Tr) σ H Q → tCons (tD F Ta) (tDA F Tr) σ H Q := by
  rintro σ H Q ⟨N, env, Qd, f, hT, k⟩
  refine ⟨N, env, _, f, hT, fun x H1 dx e1 r1 q1 => ?_⟩
  exact ⟨N, env, _, f.ext' e1, q1, fun xs H2 ds e2 r2 q2 => k _ H2 (dx :: ds) (e1.trans e2) ⟨x, xs, rfl, r1.ext e2 f.n.z, r2⟩ q2⟩
theorem da_cons {Tr : TDA} (ha : PE X e (tD F Ta)) (hr : PA X es (tDA F Tr)) (hs : starEach (e :: es) X.env = (false, eval e X.env) :: starEach es X.env := by rfl) : PA X (e :: es) (tDA F (dCons Ta Tr)) :=
  PA.imp (pa_cons ha hr hs) tCons_imp
def dTup (T : TDA) : TDE := fun ξ env Q => T ξ env fun ds => ds.length ≤ sizeLine ∧ Q (.tup ds)
def dLst (T : TDA) : TDE := fun ξ env Q => T ξ env fun ds => ds.length ≤ sizeLine ∧ Q (.lst ds)
theorem rep_newT {N : Addr → Prop} {H : Hp} {p : Addr} {vs : List V} {ds : List D} (n : NOk F N H) (hp : H p = none) (r : Reps F.K F.Z N H ds vs) : Rep F.K F.Z N (upd H p (.tup vs)) (.tup ds) (.ref p) :=
  ⟨p, vs, rfl, .inl ⟨n.fresh hp, upd_same⟩, r.ext (n.lay hp) n.z⟩
theorem rep_newL {N : Addr → Prop} {H : Hp} {p : Addr} {vs : List V} {ds : List D} (n : NOk F N H) (hp : H p = none) (r : Reps F.K F.Z N H ds vs) : Rep F.K F.Z N (upd H p (.lst vs)) (.lst ds) (.ref p) :=
  ⟨p, vs, rfl, n.fresh hp, upd_same, r.ext (n.lay hp) n.z⟩
theorem d_tup {x1 : _} (h : PA X es (tDA F Tas)) : PE X (.Tuple es x1 pos) (tD F (dTup Tas)) := PE.imp (pe_tup h) (by
  rintro σ H Q ⟨N, env, Qd, f, hT, k⟩
  refine ⟨N, env, _, f, hT, fun vs H1 ds e1 r1 q1 => ⟨by rw [← r1.length]; exact q1.1, fun p hp => ?_⟩⟩
  have n := (f.ext' e1).n
  exact k _ _ (.tup ds) (e1.trans (n.lay hp)) (rep_newT n hp r1) q1.2)
theorem d_lst (h : PA X es (tDA F Tas)) : PE X (.List es pos) (tD F (dLst Tas)) := PE.imp (pe_lst h) (by
  rintro σ H Q ⟨N, env, Qd, f, hT, k⟩
  refine ⟨N, env, _, f, hT, fun vs H1 ds e1 r1 q1 => ⟨by rw [← r1.length]; exact q1.1, fun p hp => ?_⟩⟩
  have n := (f.ext' e1).n
  exact k _ _ (.lst ds) (e1.trans (n.lay hp)) (rep_newL n hp r1) q1.2)

/-! ### subscripts -/
def gIx : G2 := fun x y Q => match x, y with
  | .tup ds, .int i => match atI ds i with
    | some d => Q d
    | none => False
  | .lst ds, .int i => match atI ds i with
    | some d => Q d
    | none => False
  | _, _ => False
theorem atI_rep {N : Addr → Prop} {H : Hp} {ds : List D} {vs : List V} {i : Int} {d : D} (r : Reps F.K F.Z N H ds vs) (h : atI ds i = some d) : ∃ v, atI vs i = some v ∧ Rep F.K F.Z N H d v := by
  unfold atI at h ⊢
  rw [← r.length]
  cases q : ixN ds.length i with
  | none => rw [q] at h; cases h
  | some j =>
    rw [q] at h
    obtain ⟨v, h1, h2⟩ := r.get (i := j) h
    exact ⟨v, h1, h2⟩
theorem opd_ix : OpD F (rIx F.K) gIx := ⟨by
  intro N H x y dx dy Qd Q n rx ry h k
  unfold gIx at h
  split at h
  · rename_i ds i
    split at h
    · rename_i d hd
      obtain ⟨a, vs, rfl, r, q⟩ := rx
      obtain ⟨v, h1, h2⟩ := atI_rep q hd
      exact .inr (.inl ⟨a, vs, i, v, rfl, ry, sqt_of r, h1, k _ _ _ Ext.refl h2 h⟩)
    · exact h.elim
  · rename_i ds i
    split at h
    · rename_i d hd
      obtain ⟨a, vs, rfl, _, r, q⟩ := rx
      obtain ⟨v, h1, h2⟩ := atI_rep q hd
      exact .inl ⟨a, vs, i, v, rfl, ry, SqL.of r, h1, k _ _ _ Ext.refl h2 h⟩
    · exact h.elim
  · exact h.elim⟩
theorem d_ix (hK : F.K = X.K) (ha : PE X a (tD F Ta)) (hb : PE X b (tD F Tb)) (hs : PlainIx b) : PE X (.Subscript a b pos) (tD F (dBin gIx Ta Tb)) := by
  have o := opd_ix (F := F)
  rw [hK] at o
  exact PE.imp (pe_ix ix_seq ha hb hs) (tOp_imp o)

/-! ### built-in functions -/
abbrev GA := List D → (D → Prop) → Prop
structure CallD (F : FP) (r : List V → Hp → VK → Prop) (g : GA) : Prop where
  ok : ∀ N H vs ds Qd (Q : VK), NOk F N H → Reps F.K F.Z N H ds vs → g ds Qd → (∀ v H' d, Ext F.Z H H' → Rep F.K F.Z N H' d v → Qd d → Q v H') → r vs H Q
def dCB (g : GA) (T : TDA) : TDE := fun ξ env Q => T ξ env fun ds => g ds Q
theorem tCB_imp {r : List V → Hp → VK → Prop} {g : GA} (hg : CallD F r g) : ∀ σ H Q, tD F (dCB g Tas) σ H Q → tCB r (tDA F Tas) σ H Q := by
  rintro σ H Q ⟨N, env, Qd, f, hT, k⟩
  refine ⟨N, env, _, f, hT, fun vs H1 ds e1 r1 q1 => ?_⟩
  exact hg.ok N H1 vs ds _ _ (f.ext' e1).n r1 q1 fun v H2 d e2 r2 q2 => k v H2 d (e1.trans e2) r2 q2
variable {x : Str} {p : Pos} {bid T : String} {r : List V → Hp → VK → Prop} {g : GA}
theorem d_callB (hg' : CallD F r g) (hc : CallR X (.builtin bid) r) (hg : Gl X x) (hm : X.mg x = none) (hv : bootBuiltins x = some (.builtin bid)) (ha : PA X (e :: es) (tDA F Tas)) (hn : x ≠ "__name__" := by decide) (hdb : (x == ("__debug__" : Str)) = false := by decide)
    (he : starEach (e :: es) X.env = (false, eval e X.env) :: starEach es X.env := by rfl) (hpl : (backTo pos (starEach es X.env)).any (·.1) = false := by rfl) : PE X (.Call (.Name x p) (e :: es) [] pos) (tD F (dCB g Tas)) :=
  PE.imp (pe_callB hc hg hm hv ha hn hdb he hpl) (tCB_imp hg')
theorem d_callTy (hg' : CallD F r g) (hc : CallR X (.type T) r) (hg : Gl X x) (hm : X.mg x = none) (hv : bootBuiltins x = some (.type T)) (ha : PA X (e :: es) (tDA F Tas)) (hn : x ≠ "__name__" := by decide) (hdb : (x == ("__debug__" : Str)) = false := by decide)
    (he : starEach (e :: es) X.env = (false, eval e X.env) :: starEach es X.env := by rfl) (hpl : (backTo pos (starEach es X.env)).any (·.1) = false := by rfl) : PE X (.Call (.Name x p) (e :: es) [] pos) (tD F (dCB g Tas)) :=
  PE.imp (pe_callTy hc hg hm hv ha hn hdb he hpl) (tCB_imp hg')
def gAbs : GA := fun xs Q => match xs with
  | [.int i] => Q (.int (if i < 0 then -i else i))
  | _ => False
theorem cd_abs : CallD F (fun xs H Q => ∃ i, xs = [.int i] ∧ Q (.int (if i < 0 then -i else i)) H) gAbs := ⟨by
  intro N H vs ds Qd Q n r h k
  unfold gAbs at h
  split at h
  · obtain ⟨v, r, rfl, h1, h2⟩ := r
    cases h2
    exact ⟨_, by rw [show v = _ from h1], k _ _ _ Ext.refl rep_int h⟩
  · exact h.elim⟩
def gLen : GA := fun xs Q => match xs with
  | [.tup ds] => Q (.int ds.length)
  | [.lst ds] => Q (.int ds.length)
  | _ => False
theorem cd_len : CallD F (fun xs H Q => ∃ p ys, xs = [.ref p] ∧ (SqL F.K H p ys ∨ SqT F.K H p ys) ∧ Q (.int ys.length) H) gLen := ⟨by
  intro N H vs ds Qd Q n r h k
  unfold gLen at h
  split at h
  · obtain ⟨v, r, rfl, h1, h2⟩ := r
    cases h2
    obtain ⟨a, vs, rfl, r, q⟩ := h1
    exact ⟨a, vs, rfl, .inr (sqt_of r), k _ _ _ Ext.refl rep_int (by rw [← q.length]; exact h)⟩
  · obtain ⟨v, r, rfl, h1, h2⟩ := r
    cases h2
    obtain ⟨a, vs, rfl, _, r, q⟩ := h1
    exact ⟨a, vs, rfl, .inl (SqL.of r), k _ _ _ Ext.refl rep_int (by rw [← q.length]; exact h)⟩
  · exact h.elim⟩
/-- int(n), int(flag) -/
def gInt : GA := fun xs Q => match xs with
  | [.int i] => Q (.int i)
  | [.bl b] => Q (.int (if b then 1 else 0))
  | _ => False
theorem cd_int : CallD F (fun xs H Q => (∃ i, xs = [.int i] ∧ Q (.int i) H) ∨ ∃ k, xs = [.bl k] ∧ Q (.int (if k then 1 else 0)) H) gInt := ⟨by
  intro N H vs ds Qd Q n r h k
  unfold gInt at h
  split at h
  · obtain ⟨v, r, rfl, h1, h2⟩ := r
    cases h2
    exact .inl ⟨_, by rw [show v = _ from h1], k _ _ _ Ext.refl rep_int h⟩
  · obtain ⟨v, r, rfl, h1, h2⟩ := r
    cases h2
    exact .inr ⟨_, by rw [show v = _ from h1], k _ _ _ Ext.refl rep_int h⟩
  · exact h.elim⟩
/-- all([..]) -/
def blsOf : List D → Option (List Bool)
  | [] => some []
  | .bl b :: ds => (blsOf ds).map (b :: ·)
  | _ :: _ => none
theorem blsOf_eq : ∀ {ds : List D} {bs : List Bool}, blsOf ds = some bs → ds = bs.map D.bl
  | [], bs, h => by simp [blsOf] at h; subst h; rfl
  | d :: ds, bs, h => by
    cases d <;> first | (simp [blsOf] at h; done) | skip
    rename_i b
    simp only [blsOf, Option.map_eq_some_iff] at h
    obtain ⟨r, h1, h2⟩ := h
    rw [← h2, blsOf_eq h1]; rfl
def gAll : GA := fun xs Q => match xs with
  | [.lst ds] => match blsOf ds with
    | some bs => Q (.bl (bs.all id))
    | none => False
  | _ => False
def gAny : GA := fun xs Q => match xs with
  | [.lst ds] => match blsOf ds with
    | some bs => Q (.bl (bs.any id))
    | none => False
  | _ => False
theorem cd_all : CallD F (fun vs H Q => ∃ (a : Addr) (bs : List Bool), vs = [V.ref a] ∧ SqL F.K H a (bs.map V.bl) ∧ Q (.bl (bs.all id)) H) gAll := ⟨by
  intro N H vs ds Qd Q n r h k
  unfold gAll at h
  split at h
  · split at h
    · rename_i ds bs hb
      obtain ⟨v, r, rfl, h1, h2⟩ := r
      cases h2
      obtain ⟨a, vs, rfl, _, r, q⟩ := h1
      rw [blsOf_eq hb] at q
      rw [q.bls] at r
      exact ⟨a, bs, rfl, SqL.of r, k _ _ _ Ext.refl rep_bl h⟩
    · exact h.elim
  · exact h.elim⟩
/-- isinstance(x, T) of the built-in types that occur -/
inductive PyT where
  | int | bool | tuple | list | str | dict
def PyT.name : PyT → String
  | .int => "int"
  | .bool => "bool"
  | .tuple => "tuple"
  | .list => "list"
  | .str => "str"
  | .dict => "dict"
def isD : PyT → D → Bool
  | .int, .int _ => true
  | .int, .bl _ => true
  | .bool, .bl _ => true
  | .tuple, .tup _ => true
  | .tuple, .kt _ => true
  | .list, .lst _ => true
  | .dict, .dct _ _ => true
  | .str, .str _ => true
  | _, _ => false
def typed : D → Bool
  | .deck => false
  | .ty _ => false
  | _ => true
def gIsi (T : PyT) : GA := fun xs Q => match xs with
  | [x, _] => typed x = true ∧ Q (.bl (isD T x))
  | _ => False
theorem kt {K : PySem.W.Frag} {a b : String} {r r' : Bool} (h : kitB a b = some r) (e : r = r') : PySem.W.kitOne K (.type a) (.type b) = some r' := e ▸ kit_ty h
theorem kt_non : ∀ T : PyT, kitB "NoneType" T.name = some false := fun T => by cases T <;> decide +kernel
theorem kt_str : ∀ T : PyT, kitB "str" T.name = some (isD T (.str Str.empty)) := fun T => by cases T <;> decide +kernel
theorem kt_bl : ∀ T : PyT, kitB "bool" T.name = some (isD T (.bl true)) := fun T => by cases T <;> decide +kernel
theorem kt_int : ∀ T : PyT, kitB "int" T.name = some (isD T (.int 0)) := fun T => by cases T <;> decide +kernel
theorem kt_tup : ∀ T : PyT, kitB "tuple" T.name = some (isD T (.tup [])) := fun T => by cases T <;> decide +kernel
theorem kt_lst : ∀ T : PyT, kitB "list" T.name = some (isD T (.lst [])) := fun T => by cases T <;> decide +kernel
theorem kt_dct : ∀ T : PyT, kitB "dict" T.name = some (isD T (.dct [] [])) := fun T => by cases T <;> decide +kernel
theorem tyx_of {N : Addr → Prop} {H : Hp} : ∀ {d : D} {v : V}, typed d = true → Rep F.K F.Z N H d v → ∃ t, TyX F.K H v t ∧ ∀ T : PyT, PySem.W.kitOne F.K t (.type T.name) = some (isD T d)
  | .non, v, _, h => ⟨.type "NoneType", by rw [show v = _ from h]; exact .base .non, fun T => kt (kt_non T) (by cases T <;> rfl)⟩
  | .bl b, v, _, h => ⟨.type "bool", by rw [show v = _ from h]; exact .base (.bl b), fun T => kt (kt_bl T) (by cases T <;> rfl)⟩
  | .int b, v, _, h => ⟨.type "int", by rw [show v = _ from h]; exact .base (.int b), fun T => kt (kt_int T) (by cases T <;> rfl)⟩
  | .str b, v, _, h => ⟨.type "str", by rw [show v = _ from h]; exact .base (.str b), fun T => kt (kt_str T) (by cases T <;> rfl)⟩
  | .tup ds, v, _, h => by
    obtain ⟨a, vs, rfl, r, q⟩ := h
    refine ⟨.type "tuple", ?_, fun T => kt (kt_tup T) (by cases T <;> rfl)⟩
    rcases r with ⟨_, r⟩ | (r | ⟨_, r⟩) | ⟨o, _, _, h1, h2, _⟩
    · exact .base (.tup r)
    · cases r
    · cases r
    · exact .kTuple h1 h2
  | .lst ds, v, _, h => by
    obtain ⟨a, vs, rfl, _, r, q⟩ := h
    exact ⟨.type "list", .base (.lst r), fun T => kt (kt_lst T) (by cases T <;> rfl)⟩
  | .dct ks ds, v, _, h => by
    obtain ⟨a, vs, rfl, _, r, _, q⟩ := h
    exact ⟨.type "dict", .base (.dK r), fun T => kt (kt_dct T) (by cases T <;> rfl)⟩
  | .deck, _, p, _ => by cases p
  | .ty _, _, p, _ => by cases p
  | .kt ds, v, _, h => by
    obtain ⟨a, vs, o, rfl, _, r, _, q⟩ := h
    exact ⟨.type "tuple", .fTuple r, fun T => DL.kt (kt_tup T) (by cases T <;> rfl)⟩
  | .ins c fs ds, v, _, h => by
    obtain ⟨a, dx, vs, rfl, _, r, _, i, q⟩ := h
    exact ⟨_, .base (.ins r i.cls i.ca i.cn i.ct i.cm), fun T => by cases T <;> exact i.kit _ (by simp [PyT.name])⟩
theorem cd_isi (T : PyT) : CallD F (fun xs H Q => (∃ (x c : V), xs = [x, c] ∧ c = .ty T.name) → rIsi F.K xs H Q) (gIsi T) := ⟨by
  intro N H vs ds Qd Q n r h k
  rintro ⟨x, c, rfl, rfl⟩
  unfold gIsi at h
  split at h
  · rename_i dx dc
    obtain ⟨v, r1, e1, h1, h2⟩ := r
    cases e1
    obtain ⟨t, h3, h4⟩ := tyx_of h.1 h1
    exact ⟨x, _, _, _, _, rfl, .ty _, h3, h4 T, k _ _ _ Ext.refl rep_bl h.2⟩
  · exact h.elim⟩
end
end DL
set_option Elab.async false
set_option linter.all false
set_option maxRecDepth 100000
namespace DL
open PySem PySem.Spec L2
open PyProof.Rows hiding St

section
variable {X : Cx} {F : FP} {e a b c : Expr} {es : List Expr} {st : Stmt} {rest : List Stmt} {pos : Pos} {Ta Tb Tc : TDE} {Tas : TDA} {T U : TDS}

theorem EndsOk.of {N0 : Addr → Prop} {H0 : Hp} {N : Addr → Prop} {H : Hp} {Dd : DEnds} {De : Ends} (ok : EndsOk F N0 H0 Dd De) (v : Evo N0 H0 N H) : EndsOk F N H Dd De :=
  ⟨fun N' σ H' env f e => ok.nx N' σ H' env f (v.trans e), ok.rt, fun N' σ H' env f e => ok.bk N' σ H' env f (v.trans e), fun N' σ H' env f e => ok.ct N' σ H' env f (v.trans e)⟩

/-! ### blocks -/
def dNext : TDS := fun _ De env => De.nx env
def dSeq (t u : TDS) : TDS := fun ξ De env => t ξ { De with nx := u ξ De } env
theorem ds_nil : PSs X [] (sD F dNext) := PSs.imp pss_nil (by
  rintro De σ H ⟨N, env, Dd, f, hT, ok⟩
  exact ok.nx _ _ _ _ f .refl hT)
theorem ds_pass : PS X (.Pass pos) (sD F dNext) := PS.imp ps_pass (by
  rintro De σ H ⟨N, env, Dd, f, hT, ok⟩
  exact ok.nx _ _ _ _ f .refl hT)
theorem ds_cons (h1 : PS X st (sD F T)) (h2 : PSs X rest (sD F U)) : PSs X (st :: rest) (sD F (dSeq T U)) := PSs.imp (pss_cons h1 h2) (by
  rintro De σ H ⟨N, env, Dd, f, hT, ok⟩
  exact ⟨N, env, { Dd with nx := U F.ex Dd }, f, hT, ⟨fun N' σ' H' env' f' v hu => ⟨N', env', Dd, f', hu, ok.of v⟩, ok.rt, ok.bk, ok.ct⟩⟩)
theorem ds_one (h1 : PS X st (sD F T)) : PSs X [st] (sD F T) := pss_one h1
def dBreak : TDS := fun _ De env => De.bk env
def dCont : TDS := fun _ De env => De.ct env
theorem ds_break : PS X (.Break pos) (sD F dBreak) := PS.imp ps_break (by
  rintro De σ H ⟨N, env, Dd, f, hT, ok⟩
  exact ok.bk _ _ _ _ f .refl hT)
theorem ds_continue : PS X (.Continue pos) (sD F dCont) := PS.imp ps_continue (by
  rintro De σ H ⟨N, env, Dd, f, hT, ok⟩
  exact ok.ct _ _ _ _ f .refl hT)
def dDrop (T : TDE) : TDS := fun ξ De env => T ξ env fun _ => De.nx env
theorem ds_expr (he : PE X e (tD F Ta)) (hs : swapsWith e none pos.line X.env = pure false := by rfl) : PS X (.Expr e pos) (sD F (dDrop Ta)) := PS.imp (ps_expr he hs) (by
  rintro De σ H ⟨N, env, Dd, f, hT, ok⟩
  exact ⟨N, env, _, f, hT, fun v H' d e1 r q => ok.nx _ _ _ _ (f.ext' e1) (.of f.n e1) q⟩)
def dRet (T : TDE) : TDS := fun ξ De env => T ξ env De.rt
theorem ds_ret (he : PE X e (tD F Ta)) : PS X (.Return (some e) pos) (sD F (dRet Ta)) := PS.imp (ps_ret he) (by
  rintro De σ H ⟨N, env, Dd, f, hT, ok⟩
  exact ⟨N, env, _, f, hT, fun v H' d e1 r q => ok.rt v H' d (f.n.ext.trans e1) (r.less f.n.sub) q⟩)
def dRetN : TDS := fun _ De _ => De.rt .non
theorem ds_retN : PS X (.Return none pos) (sD F dRetN) := PS.imp ps_retN (by
  rintro De σ H ⟨N, env, Dd, f, hT, ok⟩
  exact ok.rt _ _ _ f.n.ext rep_non hT)
def dIfS (c : TDT) (t u : TDS) : TDS := fun ξ De env => c ξ env fun b => if b = true then t ξ De env else u ξ De env
theorem ds_if {c : Expr} {a b : List Stmt} {tc : TDT} (hc : PT X c (tDT F tc)) (ha : PSs X a (sD F T)) (hb : PSs X b (sD F U)) : PS X (.If c a b pos) (sD F (dIfS tc T U)) := PS.imp (ps_if hc ha hb) (by
  rintro De σ H ⟨N, env, Dd, f, hT, ok⟩
  refine ⟨N, env, _, f, hT, fun k H1 e1 q1 => ?_⟩
  by_cases hk : k = true
  · rw [if_pos hk] at q1 ⊢
    exact ⟨N, env, Dd, f.ext' e1, q1, ok.of (.of f.n e1)⟩
  · rw [if_neg hk] at q1 ⊢
    exact ⟨N, env, Dd, f.ext' e1, q1, ok.of (.of f.n e1)⟩)
/-- never come to -/
def dNever : TDS := fun _ _ _ => False
theorem ds_never : PS X st (sD F dNever) := PS.imp ps_never (by
  rintro De σ H ⟨N, env, Dd, f, hT, ok⟩
  exact hT.elim)
theorem dss_never {sts : List Stmt} : PSs X sts (sD F dNever) := PSs.imp pss_never (by
  rintro De σ H ⟨N, env, Dd, f, hT, ok⟩
  exact hT.elim)

/-! ### targets -/
theorem FOk.set {N : Addr → Prop} {σ : L2.St} {H : Hp} {env : SE} (f : FOk F N σ H env) (i : Nat) {x : D} {v : V} (r : Rep F.K F.Z N H x v) : FOk F N (σ.set i (some v)) H (env.set i (.d x)) where
  n := f.n
  len := by rw [List.length_set, List.length_set]; exact f.len
  slot := fun j s h => by
    by_cases hj : i = j
    · subst hj
      have hl : i < env.length := by
        have := (List.getElem?_eq_some_iff.mp h).1
        rwa [List.length_set] at this
      rw [List.getElem?_set_self hl] at h
      cases h
      exact ⟨v, by rw [List.getElem?_set_self (by rw [f.len]; exact hl)], r⟩
    · rw [List.getElem?_set_ne hj] at h
      rw [List.getElem?_set_ne hj]
      exact f.slot j s h
  apart := fun j k p xs ys hjk h1 h2 h3 h4 => by
    have o : ∀ {j : Nat} {xs : List D}, (env.set i (.d x))[j]? = some (.own xs) → i ≠ j ∧ env[j]? = some (.own xs) := fun {j xs} h => by
      by_cases hj : i = j
      · subst hj
        have hl : i < env.length := by
          have := (List.getElem?_eq_some_iff.mp h).1
          rwa [List.length_set] at this
        rw [List.getElem?_set_self hl] at h
        cases h
      · rw [List.getElem?_set_ne hj] at h
        exact ⟨hj, h⟩
    obtain ⟨n1, h1⟩ := o h1
    obtain ⟨n2, h2⟩ := o h2
    rw [List.getElem?_set_ne n1] at h3
    rw [List.getElem?_set_ne n2] at h4
    exact f.apart j k p xs ys hjk h1 h2 h3 h4
abbrev TDG := D → SE → (SE → Prop) → Prop
abbrev TDGs := List D → SE → (SE → Prop) → Prop
def gD (F : FP) (G : TDG) : TG := fun v σ H Q => ∃ N env d Qd, FOk F N σ H env ∧ Rep F.K F.Z N H d v ∧ G d env Qd ∧ ∀ σ' env', FOk F N σ' H env' → Qd env' → Q σ' H
def gDs (F : FP) (G : TDGs) : TGs := fun vs σ H Q => ∃ N env ds Qd, FOk F N σ H env ∧ Reps F.K F.Z N H ds vs ∧ G ds env Qd ∧ ∀ σ' env', FOk F N σ' H env' → Qd env' → Q σ' H
theorem PG.imp {t t' : TG} (h : PG X e t) (hi : ∀ v σ H Q, t' v σ H Q → t v σ H Q) : PG X e t' := ⟨fun pins s σ H v u Q I r hw => h.run pins s σ H v u Q I r (hi _ _ _ _ hw)⟩
theorem PGs.imp {t t' : TGs} (h : PGs X es t) (hi : ∀ v σ H Q, t' v σ H Q → t v σ H Q) : PGs X es t' := ⟨fun pins s σ H v u Q I r hw => h.run pins s σ H v u Q I r (hi _ _ _ _ hw)⟩
def dgName (i : Nat) : TDG := fun d env Q => Q (env.set i (.d d))
theorem dg_name {i : Nat} (h : PG X e (gName i)) : PG X e (gD F (dgName i)) := PG.imp h (by
  rintro v σ H Q ⟨N, env, d, Qd, f, r, hG, k⟩
  exact k _ _ (f.set i r) hG)
def dgNil : TDGs := fun ds env Q => match ds with
  | [] => Q env
  | _ => False
def dgCons (G : TDG) (Gs : TDGs) : TDGs := fun ds env Q => match ds with
  | d :: r => G d env fun env' => Gs r env' Q
  | [] => False
theorem dgs_nil : PGs X [] (gDs F dgNil) := PGs.imp pgs_nil (by
  rintro v σ H Q ⟨N, env, ds, Qd, f, r, hG, k⟩
  cases ds with
  | nil => exact ⟨r, k _ _ f hG⟩
  | cons d ds => exact hG.elim)
/-- targets that leave the frame's frozen part as it is (names, tuples of names) -/
theorem dgs_cons {G : TDG} {Gs : TDGs} (h1 : PG X e (gD F G)) (h2 : PGs X es (gDs F Gs)) (hc : (assignEach (e :: es) X.env).map (·.2) = assign e X.env :: (assignEach es X.env).map (·.2) := by rfl) : PGs X (e :: es) (gDs F (dgCons G Gs)) := PGs.imp (pgs_cons h1 h2 hc) (by
  rintro v σ H Q ⟨N, env, ds, Qd, f, r, hG, k⟩
  cases ds with
  | nil => exact hG.elim
  | cons d ds =>
    obtain ⟨v0, vr, rfl, r1, r2⟩ := r
    exact ⟨v0, vr, rfl, N, env, d, _, f, r1, hG, fun σ' env' f' q => ⟨N, env', ds, _, f', r2, q, k⟩⟩)
def dgTup (n : Nat) (Gs : TDGs) : TDG := fun d env Q => match d with
  | .tup ds => ds.length = n ∧ Gs ds env Q
  | _ => False
theorem dg_tup {Gs : TDGs} {k n : Nat} (hK : F.K = X.K) (hc : X.calm = true) (h : PGs X es (gDs F Gs)) (hn : (assignEach es X.env).length = n := by rfl) (hst : (assignEach es X.env).findIdx? (·.1) = none := by rfl) :
    PG X (.Tuple es k pos) (gD F (dgTup n Gs)) := PG.imp (pg_tup hc h hn hst) (by
  rintro v σ H Q ⟨N, env, d, Qd, f, r, hG, k⟩
  cases d <;> first | exact hG.elim | skip
  rename_i ds
  obtain ⟨a, vs, rfl, r1, r2⟩ := r
  exact ⟨a, vs, rfl, by rw [← hK]; exact sqt_of r1, by rw [← r2.length]; exact hG.1, N, env, ds, _, f, r2, hG.2, k⟩)
def dAsg (T : TDE) (G : TDG) : TDS := fun ξ De env => T ξ env fun x => G x env De.nx
theorem tAsg_imp {G : TDG} : ∀ De σ H, sD F (dAsg Ta G) De σ H → tAsg (tD F Ta) (gD F G) De σ H := by
  rintro De σ H ⟨N, env, Dd, f, hT, ok⟩
  exact ⟨N, env, _, f, hT, fun v H' d e1 r q => ⟨N, env, d, _, f.ext' e1, r, q, fun σ' env' f' q' => ok.nx _ _ _ _ f' (.of f.n e1) q'⟩⟩
theorem ds_asg {tg : Expr} {G : TDG} (he : PE X e (tD F Ta)) (hg : PG X tg (gD F G)) (hs : swapsWithSole [tg] e pos.line X.env = pure false := by rfl) (hw : swappedStores [tg] e X.env = pure none := by rfl) (h1 : (assignEach [tg] X.env).map (·.2) = [assign tg X.env] := by rfl) : PS X (.Assign [tg] e pos) (sD F (dAsg Ta G)) :=
  PS.imp (ps_asg he hg hs hw h1) tAsg_imp
/-- x = e, x in slot i -/
theorem ds_set {i : Nat} {x : Str} {pos' : Pos} (hN : X.N.Nodup) (hi : X.N[i]? = some x) (hx : Loc X.env.scope x) (he : PE X e (tD F Ta)) (hs : swapsWith e (some (.Name x pos')) pos.line X.env = pure false := by rfl)
    (hf : X.fn x = true ∨ X.env.scope.names.lookup x = some .local := by first | exact .inl rfl | exact .inr rfl | assumption) : PS X (.Assign [.Name x pos'] e pos) (sD F (dAsg Ta (dgName i))) :=
  PS.imp (ps_set hN hi hx he hs hf) (by
  rintro De σ H ⟨N, env, Dd, f, hT, ok⟩
  exact ⟨N, env, _, f, hT, fun v H' d e1 r q => ok.nx _ _ _ _ ((f.ext' e1).set i r) (.of f.n e1) q⟩)
/-- x, y = a, b -/
def dPar (i j : Nat) (Ta : TDA) : TDS := fun ξ De env => Ta ξ env fun ds => match ds with
  | [x, y] => De.nx ((env.set i (.d x)).set j (.d y))
  | _ => False
theorem tPar_imp {i j : Nat} : ∀ De σ H, sD F (dPar i j Tas) De σ H → tPar i j (tDA F Tas) De σ H := by
  rintro De σ H ⟨N, env, Dd, f, hT, ok⟩
  refine ⟨N, env, _, f, hT, fun vs H' ds e1 r q => ?_⟩
  split at q
  · obtain ⟨v, _, rfl, r1, w, _, rfl, r2, r3⟩ := r
    cases r3
    exact ⟨v, w, rfl, ok.nx _ _ _ _ (((f.ext' e1).set i r1).set j r2) (.of f.n e1) q⟩
  · exact q.elim
def dPar3 (i j l : Nat) (Ta : TDA) : TDS := fun ξ De env => Ta ξ env fun ds => match ds with
  | [x, y, z] => De.nx (((env.set i (.d x)).set j (.d y)).set l (.d z))
  | _ => False
theorem tPar3_imp {i j l : Nat} : ∀ De σ H, sD F (dPar3 i j l Tas) De σ H → tPar3 i j l (tDA F Tas) De σ H := by
  rintro De σ H ⟨N, env, Dd, f, hT, ok⟩
  refine ⟨N, env, _, f, hT, fun vs H' ds e1 r q => ?_⟩
  split at q
  · obtain ⟨v, _, rfl, r1, w, _, rfl, r2, u, _, rfl, r3, r4⟩ := r
    cases r4
    exact ⟨v, w, u, rfl, ok.nx _ _ _ _ ((((f.ext' e1).set i r1).set j r2).set l r3) (.of f.n e1) q⟩
  · exact q.elim
/-- x += e of ints -/
def dAug (i : Nat) (g : G2) (T : TDE) : TDS := fun ξ De env => match env[i]? with
  | some (.d x) => T ξ env fun y => g x y fun z => De.nx (env.set i (.d z))
  | _ => False

/-! ### for -/
def forD (G : TDG) (B : TDS) (ξ : XW) (De : DEnds) : List D → SE → Prop
  | [], env => De.nx env
  | d :: ds, env => G d env fun env' => B ξ { De with nx := forD G B ξ De ds, ct := forD G B ξ De ds, bk := De.nx } env'
def dFor (T : TDE) (G : TDG) (B : TDS) : TDS := fun ξ De env => T ξ env fun d => match d with
  | .lst ds => forD G B ξ De ds env
  | _ => False
def dForT (T : TDE) (G : TDG) (B : TDS) : TDS := fun ξ De env => T ξ env fun d => match d with
  | .tup ds => forD G B ξ De ds env
  | _ => False
theorem forD_step {G : TDG} {B : TDS} {De : Ends} {Dd : DEnds} {N0 N : Addr → Prop} {H0 H : Hp} {σ : L2.St} {env : SE} {d : D} {v : V} {i : Nat} {all : List D} {Pv : Nat → L2.St → Hp → Prop}
    (hP : ∀ i σ H, Pv i σ H ↔ ∃ N env, FOk F N σ H env ∧ Evo N0 H0 N H ∧ forD G B F.ex Dd (all.drop i) env) (ok : EndsOk F N0 H0 Dd De) (f : FOk F N σ H env) (ev : Evo N0 H0 N H)
    (hd : all[i]? = some d) (r : Rep F.K F.Z N H d v) (h : forD G B F.ex Dd (all.drop i) env) :
    gD F G v σ H fun σ2 H2 => sD F B { De with nx := Pv (i + 1), ct := Pv (i + 1), bk := De.nx } σ2 H2 := by
  obtain ⟨hi, e⟩ := List.getElem?_eq_some_iff.mp hd
  rw [List.drop_eq_getElem_cons hi, e] at h
  refine ⟨N, env, d, _, f, r, h, fun σ' env' f' q => ⟨N, env', _, f', q, ⟨fun N1 σ1 H1 env1 f1 v1 q1 => ?_, ok.rt, fun N1 σ1 H1 env1 f1 v1 q1 => ok.nx _ _ _ _ f1 (ev.trans v1) q1, fun N1 σ1 H1 env1 f1 v1 q1 => ?_⟩⟩⟩
  · exact (hP _ _ _).mpr ⟨N1, env1, f1, ev.trans v1, q1⟩
  · exact (hP _ _ _).mpr ⟨N1, env1, f1, ev.trans v1, q1⟩
theorem ds_for {iter tg : Expr} {body : List Stmt} {G : TDG} {B : TDS} (hK : F.K = X.K) (hp : PassesOwn (model X.prog X.w) X.A X.env X.xe) (hc : X.calm = true) (hi : PE X iter (tD F Ta)) (hg : PG X tg (gD F G)) (hb : PSs X body (sD F B))
    (hs : ∀ x, foldedSetIterable iter X.env x = pure x := by intro _; rfl) : PS X (.For tg iter body [] pos) (sD F (dFor Ta G B)) := PS.imp (ps_for hp hc (pi_list hi) hg hb hs) (by
  rintro De σ H ⟨N, env, Dd, f, hT, ok⟩
  refine ⟨N, env, _, f, hT, fun v H1 d e1 r q => ?_⟩
  cases d <;> first | exact q.elim | skip
  rename_i ds
  obtain ⟨a, vs, rfl, na, ra, rs⟩ := r
  refine ⟨a, rfl, ⟨vs, SqL.of ra⟩, ?_⟩
  have f1 := f.ext' e1
  have ok1 := ok.of (.of f.n e1)
  refine for_list (K := X.K) (a := a) (xs := vs) (fun i σ H' => ∃ N' env', FOk F N' σ H' env' ∧ Evo N H1 N' H' ∧ forD G B F.ex Dd (ds.drop i) env') ⟨N, env, f1, .refl, q⟩ (fun i σ' H' _ ⟨N', env', f', ev, _⟩ => SqL.of (ev a _ na kp_lst ra).1) ?_ ?_
  · rintro i x σ' H' hx ⟨N', env', f', ev, q'⟩
    obtain ⟨d, hd, rd⟩ := rs.getV hx
    exact forD_step (fun _ _ _ => Iff.rfl) ok1 f' ev hd (Rep.mono ev d x rd) q'
  · rintro σ' H' ⟨N', env', f', ev, q'⟩
    rw [← rs.length, List.drop_length] at q'
    exact ok1.nx _ _ _ _ f' ev q')
theorem ds_forT {iter tg : Expr} {body : List Stmt} {G : TDG} {B : TDS} (hK : F.K = X.K) (hp : PassesOwn (model X.prog X.w) X.A X.env X.xe) (hc : X.calm = true) (hi : PE X iter (tD F Ta)) (hg : PG X tg (gD F G)) (hb : PSs X body (sD F B))
    (hs : ∀ x, foldedSetIterable iter X.env x = pure x := by intro _; rfl) : PS X (.For tg iter body [] pos) (sD F (dForT Ta G B)) := PS.imp (ps_for hp hc (pi_tup hi) hg hb hs) (by
  rintro De σ H ⟨N, env, Dd, f, hT, ok⟩
  refine ⟨N, env, _, f, hT, fun v H1 d e1 r q => ?_⟩
  cases d <;> first | exact q.elim | skip
  rename_i ds
  obtain ⟨a, vs, rfl, ra, rs⟩ := r
  refine ⟨a, rfl, ⟨vs, by rw [← hK]; exact sqt_of ra⟩, ?_⟩
  have f1 := f.ext' e1
  have ok1 := ok.of (.of f.n e1)
  refine for_tup (K := X.K) (a := a) (xs := vs) (fun i σ H' => ∃ N' env', FOk F N' σ H' env' ∧ Evo N H1 N' H' ∧ forD G B F.ex Dd (ds.drop i) env') ⟨N, env, f1, .refl, q⟩ (fun i σ' H' _ ⟨N', env', f', ev, _⟩ => ?_) ?_ ?_
  · rw [← hK]
    refine sqt_of (N := N') ?_
    rcases ra with ⟨n, ra⟩ | ra
    · obtain ⟨h1, h2⟩ := ev a _ n kp_tup ra
      exact .inl ⟨h2, h1⟩
    · exact .inr ra
  · rintro i x σ' H' hx ⟨N', env', f', ev, q'⟩
    obtain ⟨d, hd, rd⟩ := rs.getV hx
    exact forD_step (fun _ _ _ => Iff.rfl) ok1 f' ev hd (Rep.mono ev d x rd) q'
  · rintro σ' H' ⟨N', env', f', ev, q'⟩
    rw [← rs.length, List.drop_length] at q'
    exact ok1.nx _ _ _ _ f' ev q')
/-- the ints lo, lo + 1, .. -/
def intsD (lo : Int) (n : Nat) : List D := (List.range n).map fun (i : Nat) => D.int (lo + i)
theorem ints_get {lo : Int} {n i : Nat} (h : i < n) : (intsD lo n)[i]? = some (.int (lo + i)) := by
  unfold intsD
  rw [List.getElem?_map, List.getElem?_range h]
  rfl
theorem ints_len {lo : Int} {n : Nat} : (intsD lo n).length = n := by simp [intsD]
def dForR (T : TDA) (G : TDG) (B : TDS) : TDS := fun ξ De env => T ξ env fun ds => match ds with
  | [.int j] => (-(2 ^ 62) ≤ j ∧ j < 2 ^ 62) ∧ forD G B ξ De (intsD 0 j.toNat) env
  | _ => False
def dForR2 (T : TDA) (G : TDG) (B : TDS) : TDS := fun ξ De env => T ξ env fun ds => match ds with
  | [.int i, .int j] => (-(2 ^ 62) ≤ i ∧ i < 2 ^ 62 ∧ -(2 ^ 62) ≤ j ∧ j < 2 ^ 62) ∧ forD G B ξ De (intsD i (j - i).toNat) env
  | _ => False
theorem for_rangeD {G : TDG} {B : TDS} {De : Ends} {Dd : DEnds} {N : Addr → Prop} {H1 : Hp} {σ : L2.St} {env : SE} {lo : Int} {n : Nat} (ok1 : EndsOk F N H1 Dd De) (f1 : FOk F N σ H1 env) (q : forD G B F.ex Dd (intsD lo n) env) :
    ∃ W : Nat → Nat → L2.St → Hp → Prop, (∃ m, W 0 m σ H1) ∧ ∀ i m σ H, W i m σ H →
      ((Itr lo n).stop i H ∧ De.nx σ H) ∨ ((Itr lo n).go i H ∧ ∃ N : L2.St → Hp → Prop, (∀ σ' H', N σ' H' → ∃ m', m' < m ∧ W (i + 1) m' σ' H') ∧ ∀ x H', (Itr lo n).yld i H x H' → gD F G x σ H' fun σ2 H2 => sD F B { De with nx := N, ct := N, bk := De.nx } σ2 H2) := by
  refine for_range (lo := lo) (n := n) (fun i σ H' => ∃ N' env', FOk F N' σ H' env' ∧ Evo N H1 N' H' ∧ forD G B F.ex Dd ((intsD lo n).drop i) env') ⟨N, env, f1, .refl, q⟩ ?_ ?_
  · rintro i σ' H' hi ⟨N', env', f', ev, q'⟩
    exact forD_step (fun _ _ _ => Iff.rfl) ok1 f' ev (ints_get hi) rep_int q'
  · rintro σ' H' ⟨N', env', f', ev, q'⟩
    rw [show (intsD lo n).drop n = [] from by rw [List.drop_eq_nil_iff, ints_len]; exact Nat.le_refl _] at q'
    exact ok1.nx _ _ _ _ f' ev q'
theorem ds_forR1 {tg a : Expr} {p pos' : Pos} {body : List Stmt} {G : TDG} {B : TDS} (hp : PassesOwn (model X.prog X.w) X.A X.env X.xe) (hc : X.calm = true) (hgl : Gl X "range") (hm : X.mg "range" = none) (ha : PA X [a] (tDA F Tas)) (hg : PG X tg (gD F G)) (hb : PSs X body (sD F B))
    (hsa : starEach [a] X.env = [(false, eval a X.env)] := by rfl) (hs : ∀ x, foldedSetIterable (.Call (.Name "range" p) [a] [] pos') X.env x = pure x := by intro _; rfl) : PS X (.For tg (.Call (.Name "range" p) [a] [] pos') body [] pos) (sD F (dForR Tas G B)) := PS.imp (ps_for hp hc (pi_range1 hgl hm ha hsa) hg hb hs) (by
  rintro De σ H ⟨N, env, Dd, f, hT, ok⟩
  refine ⟨N, env, _, f, hT, fun vs H1 ds e1 r q => ?_⟩
  split at q
  · obtain ⟨v, _, rfl, r1, r2⟩ := r
    cases r2
    refine ⟨_, by rw [show v = _ from r1], q.1.1, q.1.2, ?_⟩
    exact for_rangeD (ok.of (.of f.n e1)) (f.ext' e1) q.2
  · exact q.elim)
theorem ds_forR2 {tg a b : Expr} {p pos' : Pos} {body : List Stmt} {G : TDG} {B : TDS} (hp : PassesOwn (model X.prog X.w) X.A X.env X.xe) (hc : X.calm = true) (hgl : Gl X "range") (hm : X.mg "range" = none) (ha : PA X [a, b] (tDA F Tas)) (hg : PG X tg (gD F G)) (hb : PSs X body (sD F B))
    (hsa : starEach [a, b] X.env = [(false, eval a X.env), (false, eval b X.env)] := by rfl) (hs2 : starEach [b] X.env = [(false, eval b X.env)] := by rfl) (hs : ∀ x, foldedSetIterable (.Call (.Name "range" p) [a, b] [] pos') X.env x = pure x := by intro _; rfl) : PS X (.For tg (.Call (.Name "range" p) [a, b] [] pos') body [] pos) (sD F (dForR2 Tas G B)) := PS.imp (ps_for hp hc (pi_range2 hgl hm ha hsa hs2) hg hb hs) (by
  rintro De σ H ⟨N, env, Dd, f, hT, ok⟩
  refine ⟨N, env, _, f, hT, fun vs H1 ds e1 r q => ?_⟩
  split at q
  · obtain ⟨v, _, rfl, r1, w, _, rfl, r2, r3⟩ := r
    cases r3
    refine ⟨_, _, by rw [show v = _ from r1, show w = _ from r2], q.1, ?_⟩
    exact for_rangeD (ok.of (.of f.n e1)) (f.ext' e1) q.2
  · exact q.elim)

/-! ### while -/
def whileN (c : TDT) (B : TDS) (ξ : XW) (De : DEnds) : Nat → SE → Prop
  | 0, _ => False
  | n + 1, env => c ξ env fun k => if k = true then B ξ { De with nx := whileN c B ξ De n, ct := whileN c B ξ De n, bk := De.nx } env else De.nx env
def dWhile (c : TDT) (B : TDS) : TDS := fun ξ De env => ∃ n, whileN c B ξ De n env
theorem ds_while {c : Expr} {body : List Stmt} {C : TDT} {B : TDS} (hp : PassesOwn (model X.prog X.w) X.A X.env X.xe) (hc : PT X c (tDT F C)) (hb : PSs X body (sD F B)) : PS X (.While c body [] pos) (sD F (dWhile C B)) := PS.imp (ps_while hp hc hb) (by
  rintro De σ H ⟨N, env, Dd, f, ⟨n, hT⟩, ok⟩
  refine ⟨fun m σ' H' => ∃ N' env', FOk F N' σ' H' env' ∧ Evo N H N' H' ∧ whileN C B F.ex Dd m env', ⟨n, N, env, f, .refl, hT⟩, ?_⟩
  rintro m σ' H' ⟨N', env', f', ev, q⟩
  cases m with
  | zero => exact q.elim
  | succ m =>
    refine ⟨N', env', _, f', q, fun k H2 e2 q2 => ?_⟩
    have ev2 : Evo N H N' H2 := ev.trans (.of f'.n e2)
    by_cases hk : k = true
    · subst hk
      rw [if_pos rfl] at q2
      refine iteT ?_
      refine ⟨fun σ3 H3 => ∃ N3 env3, FOk F N3 σ3 H3 env3 ∧ Evo N H N3 H3 ∧ whileN C B F.ex Dd m env3, fun σ3 H3 q3 => ⟨m, Nat.lt_succ_self m, q3⟩, N', env', _, f'.ext' e2, q2, ?_⟩
      exact ⟨fun N1 σ1 H1 env1 f1 v1 q1 => ⟨N1, env1, f1, ev2.trans v1, q1⟩, ok.rt, fun N1 σ1 H1 env1 f1 v1 q1 => ok.nx _ _ _ _ f1 (ev2.trans v1) q1, fun N1 σ1 H1 env1 f1 v1 q1 => ⟨N1, env1, f1, ev2.trans v1, q1⟩⟩
    · rw [Bool.not_eq_true] at hk
      subst hk
      rw [if_neg Bool.false_ne_true] at q2
      exact iteF (ok.nx _ _ _ _ (f'.ext' e2) ev2 q2))
end
end DL
set_option Elab.async false
set_option linter.all false
set_option maxRecDepth 100000
namespace DL
open PySem PySem.Spec L2
open PyProof.Rows hiding St

/-! ### defs, where no text is being written -/
structure RoomG (k : Nat) (A : Around) : Prop where
  r : Room k A
  g : A.guards = some []
theorem RoomG.mono {j k : Nat} {A : Around} (h : RoomG k A) (l : j ≤ k) : RoomG j A := ⟨h.r.mono l, h.g⟩
theorem units80 {k : Nat} {A : Around} (r : Room k A) : A.units + 80 < cLine := by have := r.un; omega
theorem guards_deeper {A : Around} {env : Env} (h : A.guards = some []) : (A.deeper env).guards = some [] := by
  first | exact h | (simpa [Around.deeper] using h)
structure FnG (P : Program) (w : World) (K : PySem.W.Frag) (mg : Str → Option Value) (base : Heap) (CX : CXT) (k : Nat) (f : Addr) (fd : FuncData) (ps : List Str) (sp : Sp) : Prop where
  len : ∀ vs H Q E, sp vs H Q E → vs.length = ps.length
  run : ∀ (A : Around) (outer : List Env) (s : Shared) (H : Hp) (args : Args) (us : List Value) (vs : List V) (Q : VK) (E : XK), RoomG k A → Env0 P w K mg base A outer s H → BindsTo s fd args (ps.zip us) → Vals vs us → sp vs H Q E →
    codeAny (model P w) A (.call (.ref f) args) (CR CX outer P w H s Q E) s
section
variable {P : Program} {w : World} {K : PySem.W.Frag} {mg : Str → Option Value} {base : Heap} {CX : CXT} {k : Nat} {f : Addr} {fd : FuncData} {N ps : List Str} {sp : Sp}
theorem FnG.mono {j : Nat} (G : FnG P w K mg base CX j f fd ps sp) (h : j ≤ k) : FnG P w K mg base CX k f fd ps sp :=
  ⟨G.len, fun A outer s H args us vs Q E hr => G.run A outer s H args us vs Q E (hr.mono h)⟩
theorem FnG.imp {sp' : Sp} (G : FnG P w K mg base CX k f fd ps sp) (h : ∀ vs H Q E, sp' vs H Q E → sp vs H Q E) : FnG P w K mg base CX k f fd ps sp' :=
  ⟨fun vs H Q E q => G.len _ _ _ _ (h _ _ _ _ q), fun A outer s H args us vs Q E hr he hb hv hs => G.run A outer s H args us vs Q E hr he hb hv (h _ _ _ _ hs)⟩
theorem FnOk.toG (G : FnOk P w K mg base CX k f fd ps sp) : FnG P w K mg base CX k f fd ps sp :=
  ⟨G.len, fun A outer s H args us vs Q E hr => G.run A outer s H args us vs Q E hr.r⟩
/-- a def's body, by a term for each entry -/
theorem fng_ofC {x qual : Str} {params : Arguments} {body : List Stmt} {scope : Scope} {dvs : List V} {kws : List (Str × V)} (F : FunD K x qual params body scope dvs kws f fd) (S : FnScope N ps scope)
    (len : ∀ vs H Q E, sp vs H Q E → vs.length = ps.length)
    (hb : ∀ (cdv : Value) (A : Around) (outer : List Env) (s : Shared) (H : Hp) (vs : List V) (Q : VK) (E : XK), RoomG k (A.deeper (envOfC qual scope s.heap.objs.size f cdv)) → (PySem.W.codeIn K cdv qual = true ∧ fd.code = cdv) → sp vs H Q E →
      ∃ t, PSs (cxOf CX P w K mg base N qual scope f cdv A outer s H E) body t ∧ t { nx := fun _ H' => Q .non H', rt := Q } (start N vs) H) : FnG P w K mg base CX (k + 1) f fd ps sp := by
  obtain ⟨oc, od, dV, kV, doc, pm, an, cdv, ct, osl, efd, lk, hcd, _, _⟩ := F.ex
  subst efd
  constructor
  · exact len
  intro A outer s H args us vs Q E room e0 bnd rel wish
  have lenv := len _ _ _ _ wish
  have still : ∀ b o, base.get? b = some o → s.heap.get? b = some o := fun b o e => (e0.bs b o e).1
  have inK : K.In s.heap := e0.mod.kin.keeps still
  have noLim : s.heap.NoLimit := e0.mod.nolimit.keeps still
  have kinds : ∀ y ∈ ps.zip us, scope.names.lookup y.1 = some .local ∨ (scope.names.lookup y.1 = some .cell ∧ ((cellsFrom (s.heap.objs.size + 1) scope.names []).lookup y.1).isSome = true) := by
    rintro ⟨n, v⟩ hy
    have hn := (List.of_mem_zip hy).1
    exact (S.par n hn).elim .inl fun q => .inr ⟨q, PySem.W.cellsFrom_some _ _ _ (.inl q)⟩
  refine codeAny_call_function room.r.depth (inK _ _ lk) rfl S.co S.gen rfl (PySem.W.codeRec_of inK hcd) (bnd _ _ _ _ ?_)
  refine wpAny_newFunctionEnv_cells S.kind kinds ?_
  intro env ee s1 inc
  subst ee
  refine ⟨noLim.keeps inc.toInCall.keep, codeAny_func ?_⟩
  obtain ⟨t, pt, tq⟩ := hb cdv A outer s H vs Q E ⟨room.r.deeper _, guards_deeper room.g⟩ ⟨hcd, rfl⟩ wish
  have start_ok := inv_start (CX := CX) (E := E) (qual := qual) (f := f) (cd := cdv) S room.r.hd e0 lenv rel inc
  refine wpAny_mono (pt.run [] s1 (start N vs) H _ start_ok tq) ?_ fun e s' z => z
  intro fl s' z
  cases fl with
  | next =>
    obtain ⟨σ', H', J, q⟩ := z
    exact ⟨V.non, H', J.os, J.bare, J.base, J.hok, rfl, q⟩
  | ret u =>
    obtain ⟨v, σ', H', J, rv, q⟩ := z
    exact ⟨v, H', J.os, J.bare, J.base, J.hok, rv, q⟩
  | brk =>
    obtain ⟨_, _, _, q⟩ := z
    cases q
  | cont =>
    obtain ⟨_, _, _, q⟩ := z
    cases q
theorem fng_of {x qual : Str} {params : Arguments} {body : List Stmt} {scope : Scope} {dvs : List V} {kws : List (Str × V)} (F : FunD K x qual params body scope dvs kws f fd) (S : FnScope N ps scope)
    (len : ∀ vs H Q E, sp vs H Q E → vs.length = ps.length)
    (hb : ∀ (cdv : Value) (A : Around) (outer : List Env) (s : Shared) (H : Hp) (vs : List V) (Q : VK) (E : XK), RoomG k (A.deeper (envOfC qual scope s.heap.objs.size f cdv)) → sp vs H Q E →
      ∃ t, PSs (cxOf CX P w K mg base N qual scope f cdv A outer s H E) body t ∧ t { nx := fun _ H' => Q .non H', rt := Q } (start N vs) H) : FnG P w K mg base CX (k + 1) f fd ps sp :=
  fng_ofC F S len fun cdv A outer s H vs Q E room _ => hb cdv A outer s H vs Q E room
end

section
variable {X : Cx} {CX : CXT} {k : Nat} {f : Addr} {fd : FuncData} {ps ks : List Str} {sp : Sp} {dvs : List V} {ds : List Value} {E : XK} {x : Str} {p pos : Pos} {e : Expr} {es : List Expr} {kws : List Keyword} {t tk : TA}
theorem wish_of {pins : List (Addr × Obj)} {σ : L2.St} {H : Hp} {s : Shared} {Q : VK} (hx : Passes CX X E) (I : Inv X pins σ H s) {r : Result} {s' : Shared} (h : CR CX X.stack X.prog X.w H s Q E r s') :
    match r with
    | .ok (.ret u) => EP X pins σ Q u s'
    | .ok _ => False
    | .error e => X.xe e s' := by
  cases r with
  | error e => exact hx pins σ H s e s' I h
  | ok fl =>
    cases fl with
    | ret u => exact I.after h
    | next => exact h
    | brk => exact h
    | cont => exact h
theorem run_g {pins : List (Addr × Obj)} {σ : L2.St} {H : Hp} {s : Shared} {Q : VK} {us : List Value} {vs : List V} (G : FnG X.prog X.w X.K X.mg X.base CX k f fd ps sp) (hr : RoomG k X.A) (hb : Binds X.K fd ps ds) (hd : Vals dvs ds) (hx : Passes CX X E)
    (I : Inv X pins σ H s) (r : Vals vs us) (h : sp (vs ++ dvs) H Q E) : wpAny (model X.prog X.w) X.A (call (.ref f) us) (EP X pins σ Q) X.xe s := by
  have rr : Vals (vs ++ dvs) (us ++ ds) := r.append hd
  have hl : (us ++ ds).length = ps.length := rr.length.symm.trans (G.len _ _ _ _ h)
  refine wpAny_call (codeAny_mono (G.run X.A X.stack s H ⟨us, []⟩ (us ++ ds) (vs ++ dvs) Q E hr I.env0 (hb s us I.kIn hl) rr h) fun r s' hq => ?_)
  have z := wish_of hx I hq
  cases r with
  | error e => exact z
  | ok fl => cases fl <;> exact z
theorem pe_callG (G : FnG X.prog X.w X.K X.mg X.base CX k f fd ps sp) (hr : RoomG k X.A) (hg : Gl X x) (hm : X.mg x = some (.ref f)) (hk : PySem.W.keepIn X.K (.ref f) = true) (hb : Binds X.K fd ps ds) (hd : Vals dvs ds) (hx : Passes CX X E)
    (ha : PA X (e :: es) t) (hdb : (x == ("__debug__" : Str)) = false := by decide) (he : starEach (e :: es) X.env = (false, eval e X.env) :: starEach es X.env := by rfl) (hpl : (backTo pos (starEach es X.env)).any (·.1) = false := by rfl) :
    PE X (.Call (.Name x p) (e :: es) [] pos) (tCall sp dvs E t) := ⟨fun pins s σ H Q I h =>
  wpAny_Call_Name_kw (ld_glob I hg hm (PySem.W.callWith_K (h₀ := X.base) I.ok.mod.kin hk (thn (ha.run pos pins s σ H _ I h) fun us s1 ⟨vs, H1, I1, r, q⟩ => ⟨I1.kIn, run_g G hr hb hd hx I1 r q⟩) he hpl) hdb)⟩
/-- keywords: all parameters, or some behind positional ones -/
theorem run_gk {pins : List (Addr × Obj)} {σ : L2.St} {H : Hp} {s : Shared} {Q : VK} {us ws : List Value} {vs zs : List V} {g : List Value → List Value → List Value} {gV : List V → List V → List V} (G : FnG X.prog X.w X.K X.mg X.base CX k f fd ps sp) (hr : RoomG k X.A) (hb : KBinds X.K fd ps ks g gV) (hx : Passes CX X E)
    (I : Inv X pins σ H s) (r : Vals vs us) (rz : Vals zs ws) (h : sp (gV vs zs) H Q E) : wpAny (model X.prog X.w) X.A (call (.ref f) us (ks.zip ws)) (EP X pins σ Q) X.xe s := by
  have rr := hb.rel r rz
  have hl : (g us ws).length = ps.length := rr.length.symm.trans (G.len _ _ _ _ h)
  refine wpAny_call (codeAny_mono (G.run X.A X.stack s H ⟨us, ks.zip ws⟩ (g us ws) (gV vs zs) Q E hr I.env0 (hb.to s us ws I.kIn hl) rr h) fun r s' hq => ?_)
  have z := wish_of hx I hq
  cases r with
  | error e => exact z
  | ok fl => cases fl <;> exact z
end

/-! ### promises over data -/
abbrev XT := DX → Prop
abbrev TF := XT → List D → (D → Prop) → Prop
/-- the class of this name -/
def clsAt (K : PySem.W.Frag) (n : Str) : Value := match PySem.W.nsIn K mainGlobals n with
  | some (some v) => v
  | _ => .none
/-- an exception below: its class, its own dict -/
def XRep (K : PySem.W.Frag) (Z : Zn) (N : Addr → Prop) (H : Hp) (x : DX) (c : Value) (od : Option Addr) : Prop :=
  c = clsAt K x.cls ∧ ((x.fs = [] ∧ od = none) ∨ ∃ d vs, od = some d ∧ ¬ N d ∧ H d = some (.xd ((x.fs.map (·.1)).zip vs)) ∧ Reps K Z N H (x.fs.map (·.2)) vs)
structure BOk (K : PySem.W.Frag) (Z : Zn) (B : Addr → Prop) (H : Hp) : Prop where
  deck : DeckOk Z H
  zin : ∀ p, InZ Z p → B p
  all : ∀ p, B p → ∃ o, H p = some o ∧ Kp o
  tb : Z.tabs = tabsOf K
def spD (K : PySem.W.Frag) (n : Nat) (T : TF) : Sp := fun vs H Q E => ∃ (Z : Zn) (B : Addr → Prop) (ds : List D) (Qd : D → Prop) (Ed : DX → Prop), BOk K Z B H ∧ Reps K Z B H ds vs ∧ ds.length = n ∧ T Ed ds Qd ∧
  (∀ v H' d, Ext Z H H' → Rep K Z B H' d v → Qd d → Q v H') ∧ ∀ x c od H', Ext Z H H' → XRep K Z B H' x c od → Ed x → E c od H'
theorem NOk.bok {F : FP} {N : Addr → Prop} {H : Hp} (n : NOk F N H) : BOk F.K F.Z N H := ⟨n.deck, n.z, n.all, n.tb⟩
def startD (n : Nat) (ds : List D) : SE := ds.map Slot.d ++ List.replicate (n - ds.length) .un
theorem start_ok {K : PySem.W.Frag} {Z : Zn} {B : Addr → Prop} {H : Hp} {ds : List D} {vs : List V} {Ed : XW} {N : List Str} (b : BOk K Z B H) (r : Reps K Z B H ds vs) : FOk ⟨K, Z, B, H, Ed, B, H⟩ B (start N vs) H (startD N.length ds) where
  n := ⟨b.deck, .refl, fun _ h => h, b.zin, b.all, fun _ h n => (n h).elim, .refl, b.tb⟩
  len := by simp [L2.start, startD, r.length]
  slot := fun i s h => by
    unfold startD at h
    by_cases hi : i < ds.length
    · rw [List.getElem?_append_left (by simpa using hi), List.getElem?_map] at h
      obtain ⟨d, hd⟩ : ∃ d, ds[i]? = some d := ⟨_, List.getElem?_eq_getElem hi⟩
      rw [hd] at h
      cases h
      obtain ⟨v, h1, h2⟩ := r.get hd
      refine ⟨v, ?_, h2⟩
      unfold L2.start
      rw [List.getElem?_append_left (by simpa [← r.length] using hi), List.getElem?_map, h1]
      rfl
    · rw [List.getElem?_append_right (by simpa using Nat.le_of_not_lt hi), List.getElem?_replicate] at h
      split at h
      · cases h; trivial
      · cases h
  apart := fun i j p xs ys _ h => by
    exfalso
    have : Slot.own xs ∈ startD N.length ds := List.mem_of_getElem? h
    unfold startD at this
    rcases List.mem_append.mp this with q | q
    · obtain ⟨d, _, e⟩ := List.mem_map.mp q; cases e
    · cases (List.mem_replicate.mp q).2
/-- what a def does with data: its body's reading -/
def tfOf (n : Nat) (T : TDS) : TF := fun ξ ds Q => T (fun x _ => ξ x) { nx := fun _ => Q .non, rt := Q } (startD n ds)
section
variable {P : Program} {w : World} {K : PySem.W.Frag} {mg : Str → Option Value} {base : Heap} {k : Nat} {f : Addr} {fd : FuncData} {N ps : List Str}
/-- a def that lets nothing out -/
theorem fng_data {x qual : Str} {params : Arguments} {body : List Stmt} {scope : Scope} {dvs : List V} {kws : List (Str × V)} {T : TDS} (Fd : FunD K x qual params body scope dvs kws f fd) (S : FnScope N ps scope)
    (hb : ∀ (cdv : Value) (A : Around) (outer : List Env) (s : Shared) (H : Hp) (E : XK) (F : FP), F.K = K → F.ex = (fun _ _ => False) → RoomG k (A.deeper (envOfC qual scope s.heap.objs.size f cdv)) →
      PSs (cxOf CX0 P w K mg base N qual scope f cdv A outer s H E).nox body (sD F T)) : FnG P w K mg base CX0 (k + 1) f fd ps (spD K ps.length fun _ ds Q => tfOf N.length T (fun _ => False) ds Q) := by
  refine fng_of Fd S ?_ ?_
  · rintro vs H Q E ⟨Z, B, ds, Qd, Ed, b, r, hl, _⟩
    rw [← r.length, hl]
  · rintro cdv A outer s H vs Q E room ⟨Z, B, ds, Qd, Ed, b, r, hl, hT, hq, _⟩
    refine ⟨_, (hb cdv A outer s H E ⟨K, Z, B, H, fun _ _ => False, B, H⟩ rfl rfl room).nox, ?_⟩
    exact ⟨B, _, _, start_ok b r, hT, ⟨fun N' σ' H' env' f' _ q => hq _ _ _ f'.n.ext rep_non q, fun v H' d e r' q => hq v H' d e r' q, fun _ _ _ _ _ _ q => q.elim, fun _ _ _ _ _ _ q => q.elim⟩⟩
end

/-! ### calls over data -/
section
variable {X : Cx} {F : FP} {k n : Nat} {f : Addr} {fd : FuncData} {ps ks : List Str} {x : Str} {p pos : Pos} {e : Expr} {es : List Expr} {kws : List Keyword} {Tas Tks : TDA} {T : TF}
def dCall (n : Nat) (T : TF) (Ta : TDA) : TDE := fun ξ env Q => Ta ξ env fun ds => ds.length = n ∧ T (fun _ => False) ds Q
theorem tCall_imp (hK : F.K = X.K) : ∀ σ H Q, tD F (dCall n T Tas) σ H Q → tCall (spD X.K n T) [] E0 (tDA F Tas) σ H Q := by
  rintro σ H Q ⟨N, env, Qd, f, hT, k⟩
  refine ⟨N, env, _, f, hT, fun vs H1 ds e1 r1 q1 => ?_⟩
  have n1 := (f.ext' e1).n
  refine ⟨F.Z, N, ds, Qd, _, by rw [← hK]; exact n1.bok, by rw [List.append_nil, ← hK]; exact r1, q1.1, q1.2, fun v H2 d e2 r2 q2 => k v H2 d (e1.trans e2) (by rw [hK]; exact r2) q2, fun _ _ _ _ _ _ z => z⟩
/-- f(e, ..): all parameters, by position -/
theorem d_call (G : FnG X.prog X.w X.K X.mg X.base CX0 k f fd ps (spD X.K n T)) (hK : F.K = X.K) (hr : RoomG k X.A) (hg : Gl X x) (hm : X.mg x = some (.ref f)) (hk : PySem.W.keepIn X.K (.ref f) = true) (hb : Binds X.K fd ps [])
    (ha : PA X (e :: es) (tDA F Tas)) (hdb : (x == ("__debug__" : Str)) = false := by decide) (he : starEach (e :: es) X.env = (false, eval e X.env) :: starEach es X.env := by rfl) (hpl : (backTo pos (starEach es X.env)).any (·.1) = false := by rfl) :
    PE X (.Call (.Name x p) (e :: es) [] pos) (tD F (dCall n T Tas)) :=
  PE.imp (pe_callG G hr hg hm hk hb .nil pass0 ha hdb he hpl) (tCall_imp hK)

/-! ### calls by name -/
theorem PK.imp {t t' : TA} (h : PK X kws t) (hi : ∀ σ H Q, t' σ H Q → t σ H Q) : PK X kws t' := ⟨fun pos pins s σ H Q I hw => h.run pos pins s σ H Q I (hi _ _ _ hw)⟩
theorem dk_nil : PK X [] (tDA F dNil) := PK.imp pk_nil (by
  rintro σ H Q ⟨N, env, Qd, f, hT, k⟩
  exact k [] H [] Ext.refl rfl hT)
theorem dk_cons {nm : Option Str} {kpos : Pos} {Ta : TDE} {Tr : TDA} (ha : PE X e (tD F Ta)) (hr : PK X kws (tDA F Tr)) : PK X (⟨nm, e, kpos⟩ :: kws) (tDA F (dCons Ta Tr)) := PK.imp (pk_cons ha hr) tCons_imp
/-- the values in the parameters' order -/
def perm {α : Type} : List Nat → List α → List α
  | [], _ => []
  | i :: r, l => match l[i]? with
    | some x => x :: perm r l
    | none => perm r l
theorem perm_vals {vs : List V} {us : List Value} (r : Vals vs us) : ∀ idx : List Nat, Vals (perm idx vs) (perm idx us)
  | [] => .nil
  | i :: idx => by
    unfold perm
    cases q : vs[i]? with
    | none => rw [r.none_of q]; exact perm_vals r idx
    | some v =>
      obtain ⟨u, h1, h2⟩ := r.get q
      rw [h1]
      exact .cons h2 (perm_vals r idx)
theorem perm_reps {K : PySem.W.Frag} {Z : Zn} {N : Addr → Prop} {H : Hp} {ds : List D} {vs : List V} (r : Reps K Z N H ds vs) : ∀ idx : List Nat, Reps K Z N H (perm idx ds) (perm idx vs)
  | [] => rfl
  | i :: idx => by
    unfold perm
    cases q : ds[i]? with
    | none =>
      have : vs[i]? = none := by
        rw [List.getElem?_eq_none_iff] at q ⊢
        rw [← r.length]; exact q
      rw [this]; exact perm_reps r idx
    | some d =>
      obtain ⟨v, h1, h2⟩ := r.get q
      rw [h1]
      exact ⟨v, _, rfl, h2, perm_reps r idx⟩
def KB (fd : FuncData) (ps ks : List Str) (idx : List Nat) : Prop := ∀ (s : Shared) (ws : List Value), ws.length = ks.length → BindsTo s fd ⟨[], ks.zip ws⟩ (ps.zip (perm idx ws))
def tCallP (m : Nat) (sp : Sp) (idx : List Nat) (E : XK) (tk : TA) : TE := fun σ H Q => tk σ H fun zs H2 => zs.length = m ∧ sp (perm idx zs) H2 Q E
theorem run_gp {CX : CXT} {sp : Sp} {E : XK} {idx : List Nat} {pins : List (Addr × Obj)} {σ : L2.St} {H : Hp} {s : Shared} {Q : VK} {ws : List Value} {zs : List V} (G : FnG X.prog X.w X.K X.mg X.base CX k f fd ps sp) (hr : RoomG k X.A) (hb : KB fd ps ks idx) (hx : Passes CX X E)
    (I : Inv X pins σ H s) (rz : Vals zs ws) (hl : zs.length = ks.length) (h : sp (perm idx zs) H Q E) : wpAny (model X.prog X.w) X.A (call (.ref f) [] (ks.zip ws)) (EP X pins σ Q) X.xe s := by
  refine wpAny_call (codeAny_mono (G.run X.A X.stack s H ⟨[], ks.zip ws⟩ (perm idx ws) (perm idx zs) Q E hr I.env0 (hb s ws (rz.length.symm.trans hl)) (perm_vals rz idx) h) fun r s' hq => ?_)
  have z := wish_of hx I hq
  cases r with
  | error e => exact z
  | ok fl => cases fl <;> exact z
theorem pe_callP {CX : CXT} {sp : Sp} {E : XK} {idx : List Nat} {tk : TA} (G : FnG X.prog X.w X.K X.mg X.base CX k f fd ps sp) (hr : RoomG k X.A) (hg : Gl X x) (hm : X.mg x = some (.ref f)) (hk : PySem.W.keepIn X.K (.ref f) = true) (hb : KB fd ps ks idx) (hx : Passes CX X E)
    (hkw : PK X kws tk) (hall : (backToKw pos (keywordEach kws X.env)).all (·.1.isSome) = true := by rfl) (hks : (backToKw pos (keywordEach kws X.env)).filterMap (·.1) = ks := by rfl) (hdb : (x == ("__debug__" : Str)) = false := by decide)
    (hpl : ((backTo pos (starEach [] X.env)).any (·.1) || (backToKw pos (keywordEach kws X.env)).any (·.1.isNone)) = false := by rfl) : PE X (.Call (.Name x p) [] kws pos) (tCallP ks.length sp idx E tk) := ⟨fun pins s σ H Q I h => by
  refine wpAny_Call_Name_kw (ld_glob I hg hm (PySem.W.callWith_KW0 (h₀ := X.base) I.ok.mod.kin hk hall ?_ hpl) hdb)
  refine thn (hkw.run pos pins s σ H _ I h) ?_
  rintro ws s2 ⟨zs, H2, I2, rz, l2, q2⟩
  rw [hks]
  exact ⟨I2.kIn, run_gp G hr hb hx I2 rz l2 q2⟩⟩
def dCallK (m n : Nat) (idx : List Nat) (T : TF) (Tk : TDA) : TDE := fun ξ env Q => Tk ξ env fun ds => (ds.length = m ∧ (perm idx ds).length = n) ∧ T (fun _ => False) (perm idx ds) Q
theorem d_callK {idx : List Nat} {m : Nat} (G : FnG X.prog X.w X.K X.mg X.base CX0 k f fd ps (spD X.K n T)) (hK : F.K = X.K) (hr : RoomG k X.A) (hg : Gl X x) (hm : X.mg x = some (.ref f)) (hk : PySem.W.keepIn X.K (.ref f) = true) (hb : KB fd ps ks idx)
    (hkw : PK X kws (tDA F Tks)) (hall : (backToKw pos (keywordEach kws X.env)).all (·.1.isSome) = true := by rfl) (hks : (backToKw pos (keywordEach kws X.env)).filterMap (·.1) = ks := by rfl) (hdb : (x == ("__debug__" : Str)) = false := by decide)
    (hpl : ((backTo pos (starEach [] X.env)).any (·.1) || (backToKw pos (keywordEach kws X.env)).any (·.1.isNone)) = false := by rfl) (hml : ks.length = m := by rfl) : PE X (.Call (.Name x p) [] kws pos) (tD F (dCallK m n idx T Tks)) :=
  PE.imp (pe_callP G hr hg hm hk hb pass0 hkw hall hks hdb hpl) (by
  subst hml
  rintro σ H Q ⟨N, env, Qd, f, hT, k⟩
  refine ⟨N, env, _, f, hT, fun vs H1 ds e1 r1 q1 => ⟨r1.length.symm.trans q1.1.1, ?_⟩⟩
  have n1 := (f.ext' e1).n
  refine ⟨F.Z, N, perm idx ds, Qd, _, by rw [← hK]; exact n1.bok, by rw [← hK]; exact perm_reps r1 idx, q1.1.2, q1.2, fun v H2 d e2 r2 q2 => k v H2 d (e1.trans e2) (by rw [hK]; exact r2) q2, fun _ _ _ _ _ _ z => z⟩)
end

/-! ### comprehensions -/
section
variable {X : Cx} {F : FP}
def wipeD (env : SE) : List Nat → SE
  | [] => env
  | v :: vs => (wipeD env vs).set v .un
theorem FOk.un {N : Addr → Prop} {σ : L2.St} {H : Hp} {env : SE} (f : FOk F N σ H env) (i : Nat) : FOk F N (σ.set i none) H (env.set i .un) where
  n := f.n
  len := by rw [List.length_set, List.length_set]; exact f.len
  slot := fun j s h => by
    by_cases hj : i = j
    · subst hj
      have hl : i < env.length := by
        have := (List.getElem?_eq_some_iff.mp h).1
        rwa [List.length_set] at this
      rw [List.getElem?_set_self hl] at h
      cases h
      trivial
    · rw [List.getElem?_set_ne hj] at h
      rw [List.getElem?_set_ne hj]
      exact f.slot j s h
  apart := fun j k p xs ys hjk h1 h2 h3 h4 => by
    have o : ∀ {j : Nat} {xs : List D}, (env.set i .un)[j]? = some (.own xs) → i ≠ j ∧ env[j]? = some (.own xs) := fun {j xs} h => by
      by_cases hj : i = j
      · subst hj
        have hl : i < env.length := by
          have := (List.getElem?_eq_some_iff.mp h).1
          rwa [List.length_set] at this
        rw [List.getElem?_set_self hl] at h
        cases h
      · rw [List.getElem?_set_ne hj] at h
        exact ⟨hj, h⟩
    obtain ⟨n1, h1⟩ := o h1
    obtain ⟨n2, h2⟩ := o h2
    rw [List.getElem?_set_ne n1] at h3
    rw [List.getElem?_set_ne n2] at h4
    exact f.apart j k p xs ys hjk h1 h2 h3 h4
theorem FOk.wipe {N : Addr → Prop} {σ : L2.St} {H : Hp} {env : SE} (f : FOk F N σ H env) : ∀ vs : List Nat, FOk F N (L2.wipe σ vs) H (wipeD env vs)
  | [] => f
  | v :: vs => (f.wipe vs).un v
/-- another wish -/
theorem FOk.wish {N : Addr → Prop} {σ : L2.St} {H : Hp} {env : SE} (f : FOk F N σ H env) (ex : XW) : FOk { F with ex := ex } N σ H env := ⟨⟨f.n.deck, f.n.ext, f.n.sub, f.n.zin, f.n.all, f.n.new, f.n.gr, f.n.tb⟩, f.len, fun i s h => by
  have q := f.slot i s h
  cases s <;> exact q, f.apart⟩
theorem FOk.unwish {N : Addr → Prop} {σ : L2.St} {H : Hp} {env : SE} {ex : XW} (f : FOk { F with ex := ex } N σ H env) : FOk F N σ H env := ⟨⟨f.n.deck, f.n.ext, f.n.sub, f.n.zin, f.n.all, f.n.new, f.n.gr, f.n.tb⟩, f.len, fun i s h => by
  have q := f.slot i s h
  cases s <;> exact q, f.apart⟩
/-- another list of the def's own comes -/
theorem FOk.with {N : Addr → Prop} {σ : L2.St} {H : Hp} {env : SE} (f : FOk F N σ H env) {p : Addr} {o : HO} (hk : Kp o) (hp : H p = none) (nb : ¬ F.B p) : FOk F (fun q => N q ∨ q = p) σ (upd H p o) env := by
  have e := f.n.lay (o := o) hp
  have f1 := f.ext' e
  have mv : ∀ r u, ¬ N r → Kp u → H r = some u → upd H p o r = some u ∧ ¬ (N r ∨ r = p) := fun r u n k h => by
    have ne := ne_of_none h hp
    exact ⟨by rw [upd_ne ne]; exact h, fun z => z.elim n ne⟩
  refine ⟨⟨f1.n.deck, f1.n.ext, fun q h => .inl (f1.n.sub q h), f1.n.zin, fun q h => ?_, fun q h n => ?_, f.n.gr.trans mv, f.n.tb⟩, f1.len, fun i s h => ?_, f1.apart⟩
  · rcases h with h | rfl
    · exact f1.n.all q h
    · exact ⟨o, upd_same, hk⟩
  · rcases h with h | rfl
    · exact f1.n.new q h n
    · exact f.n.new0 hp
  · have q := f.slot i s h
    cases s with
    | un => trivial
    | raw v => exact q
    | d x =>
      obtain ⟨v, h1, h2⟩ := q
      exact ⟨v, h1, Rep.mono mv x v h2⟩
    | own xs =>
      obtain ⟨r, vs, h1, h2, h3, h4, h5⟩ := q
      exact ⟨r, vs, h1, .inl h2, h3, by rw [upd_ne (ne_of_none h4 hp)]; exact h4, Reps.mono mv xs vs h5⟩
theorem FOk.nb {N : Addr → Prop} {σ : L2.St} {H : Hp} {env : SE} (f : FOk F N σ H env) {p : Addr} (hp : H p = none) : ¬ F.B p := fun z => f.n.fresh hp (f.n.sub p z)
/-- over the items: the target, the test, the element -/
def lcD (G : TDG) (tt : TDT) (te : TDE) (env : SE) : List D → (List D → Prop) → Prop
  | [], Q => Q []
  | d :: ds, Q => G d env fun env' => tt (fun _ _ => False) env' fun b => if b = true then te (fun _ _ => False) env' fun y => lcD G tt te env ds fun ys => Q (y :: ys) else lcD G tt te env ds Q
def dYes : TDT := fun _ _ Q => Q true
theorem dts_nil : PTs X [] (tDT F dYes) := ⟨fun pins s σ H Q I hw => pts_nil.run pins s σ H Q I (by
  obtain ⟨N, env, Qd, f, hT, k⟩ := hw
  exact k _ _ Ext.refl hT)⟩
theorem dts_one {c : Expr} {t : TDT} (h : PT X c (tDT F t)) : PTs X [c] (tDT F t) := pts_one h
end
end DL
set_option Elab.async false
set_option linter.all false
set_option maxRecDepth 100000
namespace DL
open PySem PySem.Spec L2
open PyProof.Rows hiding St
section
variable {X : Cx} {F : FP} {Ta : TDE} {Tas : TDA}
theorem FOk.with' {N : Addr → Prop} {σ : L2.St} {H H' : Hp} {env : SE} (f : FOk F N σ H env) {p : Addr} {o : HO} (hk : Kp o) (hp : H p = none) (e : Ext F.Z H H') (ho : H' p = some o) : FOk F (fun q => N q ∨ q = p) σ H' env := by
  have f1 := f.ext' e
  have mv : ∀ r u, ¬ N r → Kp u → H r = some u → H' r = some u ∧ ¬ (N r ∨ r = p) := fun r u n k h =>
    ⟨e.keep r u (fun z => n (f.n.z r z)) k h, fun z => z.elim n (ne_of_none h hp)⟩
  refine ⟨⟨f1.n.deck, f1.n.ext, fun q h => .inl (f1.n.sub q h), f1.n.zin, fun q h => ?_, fun q h n => ?_, f.n.gr.trans mv, f.n.tb⟩, f1.len, fun i s h => ?_, f1.apart⟩
  · rcases h with h | rfl
    · exact f1.n.all q h
    · exact ⟨o, ho, hk⟩
  · rcases h with h | rfl
    · exact f1.n.new q h n
    · exact f.n.new0 hp
  · have q := f.slot i s h
    cases s with
    | un => trivial
    | raw v => exact q
    | d x =>
      obtain ⟨v, h1, h2⟩ := q
      exact ⟨v, h1, Rep.mono mv x v h2⟩
    | own xs =>
      obtain ⟨r, vs, h1, h2, h3, h4, h5⟩ := q
      exact ⟨r, vs, h1, .inl h2, h3, e.keep r _ (fun z => h3 (f.n.zin r z)) kp_lst h4, Reps.mono mv xs vs h5⟩
/-- what a comprehension has made so far -/
structure LcAt (F : FP) (N : Addr → Prop) (H1 : Hp) (D : Addr) (G : TDG) (tt : TDT) (te : TDE) (env : SE) (all : List DL.D) (Qd : DL.D → Prop) (i : Nat) (H' : Hp) : Prop where
  ext : Ext F.Z H1 H'
  at_ : ∃ (acc : List V) (ds : List DL.D), H' D = some (.lst acc) ∧ acc.length ≤ i ∧ Reps F.K F.Z (fun q => N q ∨ q = D) H' ds acc ∧ lcD G tt te env (all.drop i) fun ys => Qd (.lst (ds ++ ys))
end
end DL
namespace DL
open PySem PySem.Spec L2
open PyProof.Rows hiding St
section
variable {X : Cx} {F : FP} {Ta : TDE} {Tas : TDA} {N : Addr → Prop} {σ : L2.St} {H1 H' : Hp} {env : SE} {A : Addr} {tt : TDT} {te : TDE} {all : List D} {Qd : D → Prop} {j : Nat}
abbrev FP.calm (F : FP) : FP := { F with ex := fun _ _ => False }
theorem lc_start (n : NOk F N H1) (hA : H1 A = none) {G : TDG} (h : lcD G tt te env all fun ys => Qd (.lst ys)) : LcAt F N H1 A G tt te env all Qd 0 (upd H1 A (.lst [])) :=
  ⟨n.lay hA, [], [], upd_same, Nat.le_refl _, rfl, by simpa using h⟩
theorem lc_turn (f : FOk F N σ H1 env) (hA : H1 A = none) (hz : all.length ≤ sizeLine) {i : Nat} {d : D} {x : V} (hd : all[i]? = some d) (r : Rep F.K F.Z N H1 d x) (L : LcAt F N H1 A (dgName j) tt te (wipeD env [j]) all Qd i H') :
    gName j x (L2.wipe σ [j]) H' fun σ2 H2 => L2.wipe σ2 [j] = L2.wipe σ [j] ∧ tDT F.calm tt σ2 H2 fun b H3 =>
      if b = true then tD F.calm te σ2 H3 fun y H4 => ∃ acc, H4 A = some (.lst acc) ∧ acc.length < sizeLine ∧ LcAt F N H1 A (dgName j) tt te (wipeD env [j]) all Qd (i + 1) (upd H4 A (.lst (acc ++ [y]))) else LcAt F N H1 A (dgName j) tt te (wipeD env [j]) all Qd (i + 1) H3 := by
  obtain ⟨ext, acc, ds, h1, h2, h3, h4⟩ := L
  obtain ⟨hi, e⟩ := List.getElem?_eq_some_iff.mp hd
  rw [List.drop_eq_getElem_cons hi, e] at h4
  have f1 : FOk F (fun q => N q ∨ q = A) (L2.wipe σ [j]) H' (wipeD env [j]) := (f.with' kp_lst hA ext h1).wipe [j]
  have mv : ∀ r u, ¬ N r → Kp u → H1 r = some u → H' r = some u ∧ ¬ (N r ∨ r = A) := fun r u n k h => ⟨ext.keep r u (fun z => n (f.n.z r z)) k h, fun z => z.elim n (ne_of_none h hA)⟩
  have r1 : Rep F.K F.Z (fun q => N q ∨ q = A) H' d x := Rep.mono mv d x r
  have nz : ∀ p, InZ F.Z p → p ≠ A := fun p z e => by
    obtain ⟨o, q, _⟩ := f.n.all p (f.n.z p z)
    rw [e, hA] at q; cases q
  refine ⟨by simp [L2.wipe, List.set_set], ?_⟩
  refine ⟨_, _, _, (f1.set j r1).wish _, h4, fun b H3 e3 q3 => ?_⟩
  have x3 := ext.trans e3
  have a3 : H3 A = some (.lst acc) := e3.keep A _ (fun z => nz A z rfl) kp_lst h1
  have f3 := f1.ext' e3
  by_cases hb : b = true
  · subst hb
    rw [if_pos rfl] at q3
    refine iteT ?_
    refine ⟨_, _, _, ((f1.set j r1).ext' e3).wish _, q3, fun y H4 dy e4 ry q4 => ?_⟩
    have a4 : H4 A = some (.lst acc) := e4.keep A _ (fun z => nz A z rfl) kp_lst a3
    have x4 := x3.trans e4
    refine ⟨acc, a4, by omega, ⟨fun p o n k h => ?_, fun dk => ?_⟩, acc ++ [y], ds ++ [dy], upd_same, by simp; omega, ?_, ?_⟩
    · rw [upd_ne (ne_of_none h hA)]
      exact x4.keep p o n k h
    · refine ⟨fun a l ez => ?_, fun p hp => ?_⟩
      · obtain ⟨xs, m, c, k1, k2, k3⟩ := (x4.deck dk).1 a l ez
        exact ⟨xs, m, c, by rw [upd_ne (nz a ⟨a, l, ez, .inl rfl⟩)]; exact k1, by rw [upd_ne (nz l ⟨a, l, ez, .inr rfl⟩)]; exact k2, k3⟩
      · exact tab_upd a4 kp_lst (fun _ h => by cases h) ((x4.deck dk).2 p hp)
    · have mv4 : ∀ r u, ¬ (N r ∨ r = A) → Kp u → H4 r = some u → upd H4 A (.lst (acc ++ [y])) r = some u ∧ ¬ (N r ∨ r = A) := fun r u n _ h => ⟨by rw [upd_ne (fun z => n (.inr z))]; exact h, n⟩
      have h4' : Reps F.K F.Z (fun q => N q ∨ q = A) H4 ds acc := (h3.ext e3 f1.n.z).ext e4 f1.n.z
      exact (Reps.mono mv4 _ _ h4').snoc (Rep.mono mv4 _ _ ry)
    · have : (fun ys => Qd (.lst (ds ++ [dy] ++ ys))) = fun ys => Qd (.lst (ds ++ dy :: ys)) := by
        funext ys; rw [List.append_assoc]; rfl
      rw [this]
      exact q4
  · rw [Bool.not_eq_true] at hb
    subst hb
    rw [if_neg Bool.false_ne_true] at q3
    refine iteF ?_
    exact ⟨x3, acc, ds, a3, by omega, h3.ext e3 f1.n.z, q3⟩
theorem lc_end (f : FOk F N σ H1 env) (hA : H1 A = none) {G : TDG} {H0 : Hp} {Q : VK} (e : Ext F.Z H0 H1) (k : ∀ v H' d, Ext F.Z H0 H' → Rep F.K F.Z N H' d v → Qd d → Q v H') {n : Nat} (hn : all.length = n) (L : LcAt F N H1 A G tt te (wipeD env [j]) all Qd n H') : Q (.ref A) H' := by
  obtain ⟨ext, acc, ds, h1, h2, h3, h4⟩ := L
  rw [← hn, List.drop_length] at h4
  have h4 : Qd (.lst (ds ++ [])) := h4
  rw [List.append_nil] at h4
  exact k _ _ (.lst ds) (e.trans ext) ⟨A, acc, rfl, f.n.fresh hA, h1, h3.less fun p z => .inl z⟩ h4
def dLc (T : TDE) (j : Nat) (tt : TDT) (te : TDE) : TDE := fun ξ env Q => T ξ env fun d => match d with
  | .lst ds => ds.length ≤ sizeLine ∧ lcD (dgName j) tt te (wipeD env [j]) ds fun ys => Q (.lst ys)
  | _ => False
def dLcT (T : TDE) (j : Nat) (tt : TDT) (te : TDE) : TDE := fun ξ env Q => T ξ env fun d => match d with
  | .tup ds => ds.length ≤ sizeLine ∧ lcD (dgName j) tt te (wipeD env [j]) ds fun ys => Q (.lst ys)
  | _ => False
def dLcR (T : TDA) (j : Nat) (tt : TDT) (te : TDE) : TDE := fun ξ env Q => T ξ env fun ds => match ds with
  | [.int n] => (0 ≤ n ∧ n ≤ sizeLine) ∧ lcD (dgName j) tt te (wipeD env [j]) (intsD 0 n.toNat) fun ys => Q (.lst ys)
  | _ => False
theorem lc_imp : ∀ σ H Q, tD F (dLc Ta j tt te) σ H Q → tLc (iList F.K (tD F Ta)) (gName j) (tDT F.calm tt) (tD F.calm te) [j] σ H Q := by
  rintro σ H Q ⟨N, env, Qd, f, hT, k⟩
  refine ⟨N, env, _, f, hT, fun v H1 d e1 r q => ?_⟩
  cases d <;> first | exact q.elim | skip
  rename_i ds
  obtain ⟨a, vs, rfl, na, ra, rs⟩ := r
  have f1 := f.ext' e1
  refine ⟨a, rfl, ⟨vs, SqL.of ra⟩, fun A hA => ?_⟩
  refine lc_list (K := F.K) (a := a) (xs := vs) (fun i H' => LcAt F N H1 A (dgName j) tt te (wipeD env [j]) ds Qd i H') (lc_start f1.n hA q.2) (fun i H' _ L => SqL.of (L.ext.keep a _ (fun z => na (f.n.z a z)) kp_lst ra)) (fun i x H' hx L => ?_) (fun H' L => lc_end f1 hA e1 k rs.length L)
  obtain ⟨d, hd, rd⟩ := rs.getV hx
  exact lc_turn f1 hA q.1 hd rd L
theorem lcT_imp : ∀ σ H Q, tD F (dLcT Ta j tt te) σ H Q → tLc (iTup F.K (tD F Ta)) (gName j) (tDT F.calm tt) (tD F.calm te) [j] σ H Q := by
  rintro σ H Q ⟨N, env, Qd, f, hT, k⟩
  refine ⟨N, env, _, f, hT, fun v H1 d e1 r q => ?_⟩
  cases d <;> first | exact q.elim | skip
  rename_i ds
  obtain ⟨a, vs, rfl, ra, rs⟩ := r
  have f1 := f.ext' e1
  refine ⟨a, rfl, ⟨vs, sqt_of ra⟩, fun A hA => ?_⟩
  refine lc_tup (K := F.K) (a := a) (xs := vs) (fun i H' => LcAt F N H1 A (dgName j) tt te (wipeD env [j]) ds Qd i H') (lc_start f1.n hA q.2) (fun i H' _ L => ?_) (fun i x H' hx L => ?_) (fun H' L => lc_end f1 hA e1 k rs.length L)
  · refine sqt_of (N := N) ?_
    rcases ra with ⟨n, ra⟩ | ra
    · exact .inl ⟨n, L.ext.keep a _ (fun z => n (f.n.z a z)) kp_tup ra⟩
    · exact .inr ra
  obtain ⟨d, hd, rd⟩ := rs.getV hx
  exact lc_turn f1 hA q.1 hd rd L
theorem lcR_imp : ∀ σ H Q, tD F (dLcR Tas j tt te) σ H Q → tLc (iRng1 (tDA F Tas)) (gName j) (tDT F.calm tt) (tD F.calm te) [j] σ H Q := by
  rintro σ H Q ⟨N, env, Qd, f, hT, k⟩
  refine ⟨N, env, _, f, hT, fun vs H1 ds e1 r q => ?_⟩
  split at q
  · rename_i n
    obtain ⟨v, _, rfl, r1, r2⟩ := r
    cases r2
    have f1 := f.ext' e1
    have hs : (sizeLine : Nat) < 2 ^ 62 := by rw [sizeLine_eq]; decide
    refine ⟨n, by rw [show v = _ from r1], by omega, by omega, fun A hA => ?_⟩
    refine lc_range (lo := 0) (n := n.toNat) (fun i H' => LcAt F N H1 A (dgName j) tt te (wipeD env [j]) (intsD 0 n.toNat) Qd i H') (lc_start f1.n hA q.2) (fun i H' hi L => ?_) (fun H' L => lc_end f1 hA e1 k ints_len L)
    exact lc_turn f1 hA (by rw [ints_len]; omega) (ints_get hi) rep_int L
  · exact q.elim
variable {e elt iter a : Expr} {ifs : List Expr} {scope : Scope} {own : List (Str × Nat)} {pos p pos' : Pos} {tg : Expr}
theorem d_lc (hK : F.K = X.K) (hc : X.calm = true) (hN : X.N.Nodup) (hi : PE X iter (tD F Ta)) (ok : BlkOk X.N X.env.scope scope own) (hv : own.map (·.2) = [j])
    (hg : ∀ (s : Shared) (H : Hp) (C : Addr) (cl : List (Str × Addr)) (fp : List Addr), PG (X.blk s H scope (compEnvC scope cl C X.env) fp) tg (gName j)) (ht : ∀ (s : Shared) (H : Hp) (C : Addr) (cl : List (Str × Addr)) (fp : List Addr), PTs (X.blk s H scope (compEnvC scope cl C X.env) fp) ifs (tDT F.calm tt))
    (he : ∀ (s : Shared) (H : Hp) (C : Addr) (cl : List (Str × Addr)) (fp : List Addr), PE (X.blk s H scope (compEnvC scope cl C X.env) fp) elt (tD F.calm te)) (hs : ∀ x, foldedSetIterable iter X.env x = pure x := by intro _; rfl) :
    PE X (.ListComp elt [⟨tg, iter, ifs, 0⟩] scope pos) (tD F (dLc Ta j tt te)) := by
  have z := pe_lc (pos := pos) hc hN (pi_list hi) ok hg ht he hs
  rw [hv] at z
  exact PE.imp z (by rw [← hK]; exact lc_imp)
theorem d_lcT (hK : F.K = X.K) (hc : X.calm = true) (hN : X.N.Nodup) (hi : PE X iter (tD F Ta)) (ok : BlkOk X.N X.env.scope scope own) (hv : own.map (·.2) = [j])
    (hg : ∀ (s : Shared) (H : Hp) (C : Addr) (cl : List (Str × Addr)) (fp : List Addr), PG (X.blk s H scope (compEnvC scope cl C X.env) fp) tg (gName j)) (ht : ∀ (s : Shared) (H : Hp) (C : Addr) (cl : List (Str × Addr)) (fp : List Addr), PTs (X.blk s H scope (compEnvC scope cl C X.env) fp) ifs (tDT F.calm tt))
    (he : ∀ (s : Shared) (H : Hp) (C : Addr) (cl : List (Str × Addr)) (fp : List Addr), PE (X.blk s H scope (compEnvC scope cl C X.env) fp) elt (tD F.calm te)) (hs : ∀ x, foldedSetIterable iter X.env x = pure x := by intro _; rfl) :
    PE X (.ListComp elt [⟨tg, iter, ifs, 0⟩] scope pos) (tD F (dLcT Ta j tt te)) := by
  have z := pe_lc (pos := pos) hc hN (pi_tup hi) ok hg ht he hs
  rw [hv] at z
  exact PE.imp z (by rw [← hK]; exact lcT_imp)
theorem d_lcR (hK : F.K = X.K) (hc : X.calm = true) (hN : X.N.Nodup) (hgl : Gl X "range") (hm : X.mg "range" = none) (ha : PA X [a] (tDA F Tas)) (ok : BlkOk X.N X.env.scope scope own) (hv : own.map (·.2) = [j])
    (hg : ∀ (s : Shared) (H : Hp) (C : Addr) (cl : List (Str × Addr)) (fp : List Addr), PG (X.blk s H scope (compEnvC scope cl C X.env) fp) tg (gName j)) (ht : ∀ (s : Shared) (H : Hp) (C : Addr) (cl : List (Str × Addr)) (fp : List Addr), PTs (X.blk s H scope (compEnvC scope cl C X.env) fp) ifs (tDT F.calm tt))
    (he : ∀ (s : Shared) (H : Hp) (C : Addr) (cl : List (Str × Addr)) (fp : List Addr), PE (X.blk s H scope (compEnvC scope cl C X.env) fp) elt (tD F.calm te)) (hsa : starEach [a] X.env = [(false, eval a X.env)] := by rfl) (hs : ∀ x, foldedSetIterable (.Call (.Name "range" p) [a] [] pos') X.env x = pure x := by intro _; rfl) :
    PE X (.ListComp elt [⟨tg, .Call (.Name "range" p) [a] [] pos', ifs, 0⟩] scope pos) (tD F (dLcR Tas j tt te)) := by
  have z := pe_lc (pos := pos) hc hN (pi_range1 hgl hm ha hsa) ok hg ht he hs
  rw [hv] at z
  exact PE.imp z lcR_imp
end
end DL
set_option Elab.async false
set_option linter.all false
set_option maxRecDepth 100000
namespace DL
open PySem PySem.Spec L2
open PyProof.Rows hiding St
section
variable {X : Cx} {F : FP} {Ta Tb : TDE} {Tas : TDA} {e a b c : Expr} {es : List Expr} {pos : Pos} {st : Stmt}

theorem PS.or {t u : TS} (h1 : PS X st t) (h2 : PS X st u) : PS X st (fun De σ H => t De σ H ∨ u De σ H) := ⟨fun pins s σ H De I h => h.elim (h1.run pins s σ H De I) (h2.run pins s σ H De I)⟩
theorem PE.or {t u : TE} (h1 : PE X e t) (h2 : PE X e u) : PE X e (fun σ H Q => t σ H Q ∨ u σ H Q) := ⟨fun pins s σ H Q I h => h.elim (h1.run pins s σ H Q I) (h2.run pins s σ H Q I)⟩
/-- for x in name: a list or a tuple -/
def seqD : Option Slot → Option (List D)
  | some (.d (.tup ds)) => some ds
  | some (.d (.lst ds)) => some ds
  | _ => none
def dForV (i : Nat) (G : TDG) (B : TDS) : TDS := fun ξ De env => match seqD env[i]? with
  | some ds => forD G B ξ De ds env
  | none => False
theorem seqD_of {o : Option Slot} {ds : List D} (h : seqD o = some ds) : o = some (.d (.tup ds)) ∨ o = some (.d (.lst ds)) := by
  unfold seqD at h
  split at h
  · cases h; exact .inl rfl
  · cases h; exact .inr rfl
  · cases h
theorem ds_forV {i : Nat} {tg iter : Expr} {body : List Stmt} {G : TDG} {B : TDS} (hK : F.K = X.K) (hp : PassesOwn (model X.prog X.w) X.A X.env X.xe) (hc : X.calm = true) (hi : PE X iter (tVar i)) (hg : PG X tg (gD F G)) (hb : PSs X body (sD F B))
    (hs : ∀ x, foldedSetIterable iter X.env x = pure x := by intro _; rfl) : PS X (.For tg iter body [] pos) (sD F (dForV i G B)) :=
  PS.imp (PS.or (ds_for (pos := pos) hK hp hc (d_var hi) hg hb hs) (ds_forT (pos := pos) hK hp hc (d_var hi) hg hb hs)) (by
  rintro De σ H ⟨N, env, Dd, f, hT, ok⟩
  unfold dForV at hT
  split at hT
  · rename_i ds hd
    rcases seqD_of hd with e | e
    · refine .inr ⟨N, env, Dd, f, ?_, ok⟩
      unfold dForT dVar
      rw [e]
      exact hT
    · refine .inl ⟨N, env, Dd, f, ?_, ok⟩
      unfold dFor dVar
      rw [e]
      exact hT
  · exact hT.elim)
def dLcV (i j : Nat) (tt : TDT) (te : TDE) : TDE := fun ξ env Q => match seqD env[i]? with
  | some ds => ds.length ≤ sizeLine ∧ lcD (dgName j) tt te (wipeD env [j]) ds fun ys => Q (.lst ys)
  | none => False
theorem d_lcV {i j : Nat} {tt : TDT} {te : TDE} {elt iter tg : Expr} {ifs : List Expr} {scope : Scope} {own : List (Str × Nat)} (hK : F.K = X.K) (hc : X.calm = true) (hN : X.N.Nodup) (hi : PE X iter (tVar i)) (ok : BlkOk X.N X.env.scope scope own) (hv : own.map (·.2) = [j])
    (hg : ∀ (s : Shared) (H : Hp) (C : Addr) (cl : List (Str × Addr)) (fp : List Addr), PG (X.blk s H scope (compEnvC scope cl C X.env) fp) tg (gName j)) (ht : ∀ (s : Shared) (H : Hp) (C : Addr) (cl : List (Str × Addr)) (fp : List Addr), PTs (X.blk s H scope (compEnvC scope cl C X.env) fp) ifs (tDT F.calm tt))
    (he : ∀ (s : Shared) (H : Hp) (C : Addr) (cl : List (Str × Addr)) (fp : List Addr), PE (X.blk s H scope (compEnvC scope cl C X.env) fp) elt (tD F.calm te)) (hs : ∀ x, foldedSetIterable iter X.env x = pure x := by intro _; rfl) :
    PE X (.ListComp elt [⟨tg, iter, ifs, 0⟩] scope pos) (tD F (dLcV i j tt te)) :=
  PE.imp (PE.or (d_lc (pos := pos) hK hc hN (d_var hi) ok hv hg ht he hs) (d_lcT (pos := pos) hK hc hN (d_var hi) ok hv hg ht he hs)) (by
  rintro σ H Q ⟨N, env, Qd, f, hT, k⟩
  unfold dLcV at hT
  split at hT
  · rename_i ds hd
    rcases seqD_of hd with e | e
    · refine .inr ⟨N, env, Qd, f, ?_, k⟩
      unfold dLcT dVar
      rw [e]
      exact hT
    · refine .inl ⟨N, env, Qd, f, ?_, k⟩
      unfold dLc dVar
      rw [e]
      exact hT
  · exact hT.elim)

/-! ### isinstance(x, T) -/
def gIs (T : PyT) : G1 := fun x Q => typed x = true ∧ Q (.bl (isD T x))
theorem d_isi {T : PyT} {p p2 : Pos} {ty : Str} (hK : F.K = X.K) (hg : Gl X "isinstance") (hm : X.mg "isinstance" = none) (hg2 : Gl X ty) (hm2 : X.mg ty = none) (hv2 : bootBuiltins ty = some (.type T.name)) (ha : PE X a (tD F Ta)) (hn2 : ty ≠ "__name__" := by decide) (hd2 : (ty == ("__debug__" : Str)) = false := by decide)
    (he : starEach [a, .Name ty p2] X.env = (false, eval a X.env) :: starEach [.Name ty p2] X.env := by rfl) (he2 : starEach [.Name ty p2] X.env = (false, eval (.Name ty p2) X.env) :: starEach [] X.env := by rfl) (hpl : (backTo pos (starEach [.Name ty p2] X.env)).any (·.1) = false := by rfl) :
    PE X (.Call (.Name "isinstance" p) [a, .Name ty p2] [] pos) (tD F (dUn (gIs T) Ta)) :=
  PE.imp (pe_callB call_isi hg hm (by decide +kernel) (pa_cons ha (pa_cons (pe_bltn (v := .ty T.name) hg2 hm2 hv2 rfl hn2 hd2) pa_nil he2) he) (by decide) (by decide) he hpl) (by
  rintro σ H Q ⟨N, env, Qd, f, hT, k⟩
  refine ⟨N, env, _, f, hT, fun v H1 d e1 r q => ?_⟩
  obtain ⟨t, h3, h4⟩ := tyx_of q.1 r
  rw [hK] at h3 h4
  exact ⟨v, _, _, _, _, rfl, .ty _, h3, h4 T, k _ _ _ e1 rep_bl q.2⟩)

/-! ### repr -/
def showOk (d : D) : Prop := plain d = true ∧ (toP d).showable = true ∧ (toP d).hasDict = false ∧ (toP d).depth ≤ 64 ∧ ((toP d).shown).length ≤ sizeLine
def gRepr : GA := fun xs Q => match xs with
  | [d] => showOk d ∧ Q (.str (toP d).shown)
  | _ => False
def rRepr (K : PySem.W.Frag) : List V → Hp → VK → Prop := fun vs H Q => ∃ v d, vs = [v] ∧ Dp K H v d ∧ d.showable = true ∧ d.hasDict = false ∧ d.depth ≤ 64 ∧ d.shown.length ≤ sizeLine ∧ Q (.str d.shown) H
theorem cr_repr (hg : X.A.guards = some []) (hu : X.A.units + 80 < cLine) : CallR X (.builtin "repr") (rRepr X.K) := by
  intro pins s σ H vs us Q I r h
  obtain ⟨v, d, rfl, dp, h1, h2, h3, h4, q⟩ := h
  obtain ⟨u, rfl, rv⟩ := vals1 r
  obtain ⟨as, rd⟩ := Dp.reads I d v u dp rv
  cases rd with
  | none => exact PySem.P.repr_of_none ⟨.str _, H, I.tok _, ⟨_, rfl⟩, q⟩
  | bool b => exact PySem.P.repr_of_bool ⟨.str _, H, I.tok _, ⟨_, rfl⟩, q⟩
  | int i t => exact PySem.P.repr_of_int (of_decide_eq_true h1) ⟨.str _, H, I.tok _, ⟨_, rfl⟩, q⟩
  | str x t => exact PySem.P.repr_of_str ⟨.str _, H, I.tok _, ⟨_, rfl⟩, q⟩ h4
  | list e1 e2 e3 e4 =>
    exact repr_of_reads' (h₀ := s.heap) (.list e1 e2 e3 e4) h1 (fun z => by rw [h2] at z; cases z) hg (by omega) (fun _ _ z => z) (fun h' u tk hk => ⟨.str _, H, I.kept (t' := tk) hk, ⟨_, rfl⟩, q⟩) h4
  | tuple e1 e2 e3 e4 =>
    exact repr_of_reads' (h₀ := s.heap) (.tuple e1 e2 e3 e4) h1 (fun z => by rw [h2] at z; cases z) hg (by omega) (fun _ _ z => z) (fun h' u tk hk => ⟨.str _, H, I.kept (t' := tk) hk, ⟨_, rfl⟩, q⟩) h4
  | dict e1 e2 e3 e4 e5 => cases h2
theorem cd_repr : CallD F (rRepr F.K) gRepr := ⟨by
  intro N H vs ds Qd Q n r h k
  unfold gRepr at h
  split at h
  · rename_i d
    obtain ⟨v, r, rfl, h1, h2⟩ := r
    cases h2
    obtain ⟨⟨p, s1, s2, s3, s4⟩, q⟩ := h
    exact ⟨v, toP d, rfl, Rep.dp d v p h1, s1, s2, s3, s4, k _ _ _ Ext.refl rep_str q⟩
  · exact h.elim⟩
theorem d_repr {p : Pos} (hK : F.K = X.K) (hgd : X.A.guards = some []) (hu : X.A.units + 80 < cLine) (hg : Gl X "repr") (hm : X.mg "repr" = none) (ha : PA X (e :: es) (tDA F Tas))
    (he : starEach (e :: es) X.env = (false, eval e X.env) :: starEach es X.env := by rfl) (hpl : (backTo pos (starEach es X.env)).any (·.1) = false := by rfl) : PE X (.Call (.Name "repr" p) (e :: es) [] pos) (tD F (dCB gRepr Tas)) := by
  have z := cd_repr (F := F)
  rw [hK] at z
  exact d_callB z (cr_repr hgd hu) hg hm (by decide +kernel) ha (by decide) (by decide) he hpl

/-! ### isqrt -/
def gIsqrt : GA := fun xs Q => match xs with
  | [.int i] => (0 ≤ i ∧ i.toNat.log2 < 13500) ∧ ∀ r : Int, 0 ≤ r → r * r ≤ i → i < (r + 1) * (r + 1) → Q (.int r)
  | _ => False
def rIsqrt : List V → Hp → VK → Prop := fun vs H Q => ∃ i : Int, vs = [.int i] ∧ (0 ≤ i ∧ i.toNat.log2 < 13500) ∧ ∀ r : Int, 0 ≤ r → r * r ≤ i → i < (r + 1) * (r + 1) → Q (.int r) H
theorem cr_isqrt : CallR X (.builtin "math.isqrt") rIsqrt := by
  intro pins s σ H vs us Q I r h
  obtain ⟨i, rfl, ⟨h0, h1⟩, q⟩ := h
  obtain ⟨u, rfl, t, rfl⟩ := vals1 r
  have z := PySem.W.mg_run_isqrt i t (by omega) (by omega) (by omega)
  obtain ⟨z1, z2⟩ := Float64.isqrt_spec i.toNat
  refine call_function_meets PySem.W.MGF.kind_isqrt PySem.W.MGF.plain_isqrt PySem.W.MGF.entry_isqrt (PySem.W.MGF.args_isqrt _) z.meets ?_
  refine ⟨.int _, H, I.tok _, ⟨_, rfl⟩, q _ (Int.natCast_nonneg _) ?_ ?_⟩
  · have : ((Float64.isqrt i.toNat * Float64.isqrt i.toNat : Nat) : Int) ≤ (i.toNat : Int) := Int.ofNat_le.mpr z1
    rw [Int.toNat_of_nonneg h0, Int.natCast_mul] at this
    exact this
  · have : ((i.toNat : Nat) : Int) < (((Float64.isqrt i.toNat + 1) * (Float64.isqrt i.toNat + 1) : Nat) : Int) := Int.ofNat_lt.mpr z2
    rw [Int.toNat_of_nonneg h0, Int.natCast_mul] at this
    exact this
theorem cd_isqrt : CallD F rIsqrt gIsqrt := ⟨by
  intro N H vs ds Qd Q n r h k
  unfold gIsqrt at h
  split at h
  · obtain ⟨v, r, rfl, h1, h2⟩ := r
    cases h2
    exact ⟨_, by rw [show v = _ from h1], h.1, fun r h1 h2 h3 => k _ _ _ Ext.refl rep_int (h.2 r h1 h2 h3)⟩
  · exact h.elim⟩
theorem d_callBf {x : Str} {p : Pos} {bid : String} {r : List V → Hp → VK → Prop} {g : GA} (hg' : CallD F r g) (hc : CallR X (.builtin bid) r) (hg : Gl X x) (hm : X.mg x = some (.builtin bid)) (ha : PA X (e :: es) (tDA F Tas)) (hdb : (x == ("__debug__" : Str)) = false := by decide)
    (he : starEach (e :: es) X.env = (false, eval e X.env) :: starEach es X.env := by rfl) (hpl : (backTo pos (starEach es X.env)).any (·.1) = false := by rfl) : PE X (.Call (.Name x p) (e :: es) [] pos) (tD F (dCB g Tas)) :=
  PE.imp (pe_callBfun hc hg hm ha hdb he hpl) (tCB_imp hg')

/-! ### two or three names at once -/
theorem ds_par {i j : Nat} {x y : Str} {px py pt : Pos} {kt k2 pt2} (hc : X.calm = true) (hN : X.N.Nodup) (hi : X.N[i]? = some x) (hj : X.N[j]? = some y) (hij : i ≠ j)
    (hx : X.env.scope.names.lookup x = some .local) (hy : X.env.scope.names.lookup y = some .local) (ha : PA X [a, b] (tDA F Tas)) (hw : swappedStores [.Tuple [.Name x px, .Name y py] kt pt] (.Tuple [a, b] k2 pt2) X.env = pure (some [x, y]) := by rfl)
    (hs : swapsWithSole [.Tuple [.Name x px, .Name y py] kt pt] (.Tuple [a, b] k2 pt2) pos.line X.env = pure false := by rfl) : PS X (.Assign [.Tuple [.Name x px, .Name y py] kt pt] (.Tuple [a, b] k2 pt2) pos) (sD F (dPar i j Tas)) :=
  PS.imp (ps_par hc hN hi hj hij hx hy ha hw hs) tPar_imp
theorem ds_par3 {i j l : Nat} {x y z : Str} {px py pz pt : Pos} {kt k2 pt2} (hc : X.calm = true) (hN : X.N.Nodup) (hi : X.N[i]? = some x) (hj : X.N[j]? = some y) (hl : X.N[l]? = some z) (hij : i ≠ j) (hil : i ≠ l) (hjl : j ≠ l)
    (hx : X.env.scope.names.lookup x = some .local) (hy : X.env.scope.names.lookup y = some .local) (hz : X.env.scope.names.lookup z = some .local) (ha : PA X [a, b, c] (tDA F Tas))
    (hw : swappedStores [.Tuple [.Name x px, .Name y py, .Name z pz] kt pt] (.Tuple [a, b, c] k2 pt2) X.env = pure (some [x, y, z]) := by rfl)
    (hs : swapsWithSole [.Tuple [.Name x px, .Name y py, .Name z pz] kt pt] (.Tuple [a, b, c] k2 pt2) pos.line X.env = pure false := by rfl) : PS X (.Assign [.Tuple [.Name x px, .Name y py, .Name z pz] kt pt] (.Tuple [a, b, c] k2 pt2) pos) (sD F (dPar3 i j l Tas)) :=
  PS.imp (ps_par3 hc hN hi hj hl hij hil hjl hx hy hz ha hw hs) tPar3_imp
end
theorem kb_of {K : PySem.W.Frag} {x qual : Str} {params : Arguments} {body : List Stmt} {scope : Scope} {kws : List (Str × V)} {f : Addr} {fd : FuncData} {ps ks : List Str} {idx : List Nat} (F : FunD K x qual params body scope [] kws f fd)
    (h : ∀ (kV doc pm : Value) (an : Option Addr) (cdv ct : Value) (ws : List Value), ws.length = ks.length → bindArgs (PySem.W.fnOf x qual params body scope .none kV doc pm an cdv ct) ⟨[], ks.zip ws⟩ = pure (ps.zip (perm idx ws))) : KB fd ps ks idx := by
  obtain ⟨oc, od, dV, kV, doc, pm, an, cdv, ct, osl, rfl, lk, hcd, hD, hK⟩ := F.ex
  rcases hD with ⟨_, rfl⟩ | ⟨e, _⟩
  · exact fun s ws hl => .of_eq (h kV doc pm an cdv ct ws hl)
  · exact absurd rfl e
end DL
set_option Elab.async false
set_option linter.all false
set_option maxRecDepth 100000
namespace DL
open PySem PySem.Spec L2
open PyProof.Rows hiding St

/-! ### a text of nines, and the number that it tells -/
def nine (n : Nat) : Str := ⟨(List.replicate n ((Str.ofString "9").cps)).foldl (· ++ ·) #[]⟩
theorem nine_fold (n : Nat) : ∀ acc : Array Nat, ((List.replicate n ((Str.ofString "9").cps)).foldl (· ++ ·) acc).toList = acc.toList ++ List.replicate n 57 := by
  induction n with
  | zero => intro acc; simp
  | succ n ih =>
    intro acc
    rw [List.replicate_succ, List.foldl_cons, ih]
    have e : (Str.ofString "9").cps = #[57] := by decide +kernel
    rw [e, Array.toList_append, List.append_assoc]
    rfl
theorem nine_cps (n : Nat) : (nine n).cps.toList = List.replicate n 57 := by
  unfold nine
  rw [nine_fold]
  rfl
theorem nine_len (n : Nat) : (nine n).length = n := by
  have : (nine n).cps.size = (nine n).cps.toList.length := Array.length_toList.symm
  show (nine n).cps.size = n
  rw [this, nine_cps, List.length_replicate]
open NumText in
theorem nines_digits (n : Nat) : ∀ (acc : Array Nat) (b : Bool), (List.replicate (n + 1) 57).foldlM (step 10) (acc, b) = some (acc ++ (List.replicate (n + 1) 9).toArray, true) := by
  induction n with
  | zero =>
    intro acc b
    have e : step 10 (acc, b) 57 = some (acc.push 9, true) := rfl
    rw [List.replicate_succ, List.foldlM_cons, e]
    simp
  | succ n ih =>
    intro acc b
    have e : step 10 (acc, b) 57 = some (acc.push 9, true) := rfl
    rw [List.replicate_succ, List.foldlM_cons, e]
    show (List.replicate (n + 1) 57).foldlM (step 10) (acc.push 9, true) = _
    rw [ih]
    congr 2
    rw [List.replicate_succ (n := n + 1)]
    apply Array.ext'
    simp
theorem nines_value (n : Nat) : ∀ acc : Nat, (List.replicate n 9).foldl (fun acc d => acc * 10 + d) acc + 1 = (acc + 1) * 10 ^ n := by
  induction n with
  | zero => intro acc; simp
  | succ n ih =>
    intro acc
    rw [List.replicate_succ, List.foldl_cons, ih, Nat.pow_succ]
    rw [Nat.mul_comm (10 ^ n) 10, ← Nat.mul_assoc]
    congr 1
    omega
open NumText in
theorem nine_int (n : Nat) (h : n + 1 ≤ 4300) : intText? (nine (n + 1)) = some ((10 : Int) ^ (n + 1) - 1) := by
  have hall : ((nine (n + 1)).cps.all (· < 128)) = true := by
    rw [← Array.all_toList, nine_cps, List.all_eq_true]
    intro x hx
    rw [(List.mem_replicate.mp hx).2]
    rfl
  have e1 : numTextOf (nine (n + 1)) = List.replicate (n + 1) 57 := by
    unfold numTextOf
    rw [if_pos hall, nine_cps]
  have e2 : numSeenOf (nine (n + 1)) = List.replicate (n + 1) 57 := by
    unfold numSeenOf
    rw [e1, List.takeWhile_replicate]
    rfl
  have e3 : (List.replicate (n + 1) 57).dropWhile blank = List.replicate (n + 1) 57 := by
    rw [List.replicate_succ, List.dropWhile_cons]
    rfl
  have e4 : sign (List.replicate (n + 1) 57) = (false, List.replicate (n + 1) 57) := by
    rw [List.replicate_succ]
    rfl
  have e5 : core (List.replicate (n + 1) 57) = List.replicate (n + 1) 57 := by
    unfold core
    rw [e3, e4]
    show ((List.replicate (n + 1) 57).reverse.dropWhile blank).reverse = _
    rw [List.reverse_replicate, e3, List.reverse_replicate]
  unfold intText?
  rw [e1, e2, e3, e4, e5]
  rw [if_pos (by simp)]
  have e6 : digits? 10 (List.replicate (n + 1) 57) = some (List.replicate (n + 1) 9).toArray := by
    unfold digits?
    rw [nines_digits]
    simp
  rw [e6]
  show (if (List.replicate (n + 1) 9).toArray.size ≤ 4300 then some (worth false (List.replicate (n + 1) 9).toArray) else none) = _
  rw [if_pos (by simpa using h)]
  congr 1
  unfold worth
  rw [if_neg Bool.false_ne_true]
  have v := nines_value (n + 1) 0
  rw [List.foldl_toArray]
  have : ((List.replicate (n + 1) 9).foldl (fun acc d => acc * 10 + d) 0 : Nat) = 10 ^ (n + 1) - 1 := by omega
  rw [this]
  have p : 1 ≤ 10 ^ (n + 1) := Nat.one_le_pow _ _ (by decide)
  rw [Int.natCast_sub p]
  simp
section
variable {X : Cx} {F : FP} {Ta Tb : TDE} {Tas : TDA} {e a b c : Expr} {es : List Expr} {pos : Pos} {st : Stmt}
def rNine : R2 := fun x y H Q => ∃ n : Int, x = .str "9" ∧ y = .int n ∧ (2 ≤ n ∧ n ≤ 10000) ∧ Q (.str (nine n.toNat)) H
theorem op_nine : OpR X (binaryOp .Mult) rNine := by
  intro pins s σ H x y v u Q I rx ry h
  obtain ⟨n, rfl, rfl, ⟨h1, h2⟩, q⟩ := h
  obtain ⟨t, rfl⟩ := rx
  obtain ⟨t', rfl⟩ := ry
  have l1 : ("9" : Str).length = 1 := by decide +kernel
  have c1 : (n == 1 || ("9" : Str).length == 0) = false := by
    rw [l1]
    have : (n == 1) = false := by rw [beq_eq_false_iff_ne]; omega
    rw [this]; rfl
  refine PySem.P.mul_str ?_ ?_ ?_ ?_
  · rw [decide_eq_false (by omega), decide_eq_false (by omega)]; rfl
  · intro _ _ z
    rw [l1] at z
    have hd : 10000 ≤ (2 ^ 63 - 1) / n := by
      rw [Int.le_ediv_iff_mul_le (by omega)]
      omega
    omega
  · intro _ _
    unfold Builtin.Str.tooLong
    rw [l1, sizeLine_eq]
    exact decide_eq_false (by omega)
  · rw [if_neg (by omega), if_neg (by rw [c1]; exact Bool.false_ne_true)]
    have hl : (nine n.toNat).length ≤ sizeLine := by rw [nine_len, sizeLine_eq]; omega
    exact ⟨hl, ⟨.str (nine n.toNat), H, I.tok _, ⟨_, rfl⟩, q⟩⟩
def gNines : G1 := fun x Q => match x with
  | .int n => (2 ≤ n ∧ n ≤ 640) ∧ Q (.int (10 ^ n.toNat - 1))
  | _ => False
theorem d_nines {k : Nat} {p p1 p2 : Pos} {n : Expr} (hg : Gl X "int") (hm : X.mg "int" = none) (hn : PE X n (tD F Ta)) (he : starEach [.BinOp (.Constant (.str "9") k p1) .Mult n p2] X.env = (false, eval (.BinOp (.Constant (.str "9") k p1) .Mult n p2) X.env) :: starEach [] X.env := by rfl)
    (hpl : (backTo pos (starEach [] X.env)).any (·.1) = false := by rfl) : PE X (.Call (.Name "int" p) [.BinOp (.Constant (.str "9") k p1) .Mult n p2] [] pos) (tD F (dUn gNines Ta)) :=
  PE.imp (pe_callTy call_int_str hg hm (by decide +kernel) (pa_cons (pe_op op_nine pe_str hn) pa_nil he) (by decide) (by decide) he hpl) (by
  rintro σ H Q ⟨N, env, Qd, f, hT, k⟩
  refine ⟨N, env, _, f, hT, fun v H1 d e1 r q => ?_⟩
  cases d <;> first | exact q.elim | skip
  rename_i n
  obtain ⟨⟨h1, h2⟩, q⟩ := q
  refine ⟨n, rfl, r, ⟨h1, by omega⟩, ?_⟩
  obtain ⟨m, hm⟩ : ∃ m, n.toNat = m + 1 := ⟨n.toNat - 1, by omega⟩
  refine ⟨nine n.toNat, _, rfl, ?_, by rw [nine_len]; omega, k _ _ _ e1 rep_int q⟩
  rw [hm]
  exact nine_int m (by omega))
end
end DL
set_option Elab.async false
set_option linter.all false
set_option maxRecDepth 100000
namespace DL
open PySem PySem.Spec L2
open PyProof.Rows hiding St
/-! ### the deck -/
/-- a draw: some number below the given one -/
def tf_draw : TF := fun _ ds Q => match ds with
  | [.deck, .int n] => (0 < n ∧ n < 1000000000) ∧ ∀ r : Int, 0 ≤ r → r < n → Q (.int r)
  | _ => False
theorem draw_reps {K : PySem.W.Frag} {Z : Zn} {B : Addr → Prop} {H : Hp} {ds : List D} {vs : List V} {Qd : D → Prop} (r : Reps K Z B H ds vs) (h : tf_draw (fun _ => False) ds Qd) :
    ∃ a l n, Z.deck = some (a, l) ∧ vs = [.ref a, .int n] ∧ (0 < n ∧ n < 1000000000) ∧ ∀ r : Int, 0 ≤ r → r < n → Qd (.int r) := by
  unfold tf_draw at h
  split at h
  · obtain ⟨v, _, rfl, ⟨a, l, hz, rfl⟩, w, _, rfl, rfl, h4⟩ := r
    cases h4
    exact ⟨a, l, _, hz, rfl, h⟩
  · exact h.elim
theorem kvs_m {l : Addr} {m k : Int} : valV (deckKvs l m k) (.inr ("mixed" : Str)) = some (.int m) := rfl
theorem kvs_l {l : Addr} {m k : Int} : valV (deckKvs l m k) (.inr ("left" : Str)) = some (.ref l) := rfl
theorem kvs_d {l : Addr} {m k : Int} : valV (deckKvs l m k) (.inr ("draws" : Str)) = some (.int k) := rfl
theorem kvs_put {l : Addr} {m k j : Int} : putK (deckKvs l m k) (.inr ("draws" : Str)) (.int j) = deckKvs l m j := rfl
theorem dg_m {H : Hp} {a l : Addr} {m k : Int} (h : H a = some (.dK (deckKvs l m k))) : DGet H a (.str "mixed") (some (.int m)) := kvs_m (l := l) (m := m) (k := k) ▸ DGet.k (k := .inr "mixed") h
theorem dg_l {H : Hp} {a l : Addr} {m k : Int} (h : H a = some (.dK (deckKvs l m k))) : DGet H a (.str "left") (some (.ref l)) := kvs_l (l := l) (m := m) (k := k) ▸ DGet.k (k := .inr "left") h
theorem dg_d {H : Hp} {a l : Addr} {m k : Int} (h : H a = some (.dK (deckKvs l m k))) : DGet H a (.str "draws") (some (.int k)) := kvs_d (l := l) (m := m) (k := k) ▸ DGet.k (k := .inr "draws") h
theorem dp_d {H : Hp} {a l : Addr} {m k j : Int} (h : H a = some (.dK (deckKvs l m k))) : DPut H a (.str "draws") (.int j) (upd H a (.dK (deckKvs l m j))) :=
  kvs_put (l := l) (m := m) (k := k) (j := j) ▸ DPut.k (k := .inr "draws") (v := .int j) h (by rw [sizeLine_eq]; show 3 < _; omega)
/-- the heap behind some steps of a draw -/
structure Dk (a l : Addr) (H H' : Hp) (m k : Int) (xs : List Int) : Prop where
  keep : ∀ p o, p ≠ a → p ≠ l → H p = some o → H' p = some o
  dict : H' a = some (.dK (deckKvs l m k))
  list : H' l = some (.lst (xs.map V.int))
  ne : a ≠ l
  tabs : ∀ P q, LamX.TabS H P q → LamX.TabS H' P q
theorem Dk.ext {a l : Addr} {H H' : Hp} {m k : Int} {xs : List Int} (d : Dk a l H H' m k xs) (h : xs.length ≤ 63) {Z : Zn} (hz : Z.deck = some (a, l)) : Ext Z H H' :=
  ⟨fun p o n _ e => d.keep p o (fun z => n ⟨a, l, hz, .inl z⟩) (fun z => n ⟨a, l, hz, .inr z⟩) e, fun dk => ⟨fun a' l' e => by rw [hz] at e; cases e; exact ⟨xs, m, k, d.dict, d.list, h⟩, fun p hp => d.tabs _ _ (dk.2 p hp)⟩⟩
theorem Dk.new {a l p : Addr} {o : HO} {H H' : Hp} {m k : Int} {xs : List Int} (d : Dk a l H H' m k xs) (hp : H' p = none) : Dk a l H (upd H' p o) m k xs :=
  ⟨fun q u n1 n2 e => by rw [upd_ne (ne_of_none (d.keep q u n1 n2 e) hp)]; exact d.keep q u n1 n2 e, by rw [upd_ne (ne_of_none d.dict hp)]; exact d.dict, by rw [upd_ne (ne_of_none d.list hp)]; exact d.list, d.ne, fun P q t => (d.tabs P q t).ext fun b u e => by rw [upd_ne (ne_of_none e hp)]; exact e⟩
theorem Dk.put {a l : Addr} {H H' : Hp} {m k j : Int} {xs : List Int} (d : Dk a l H H' m k xs) : Dk a l H (upd H' a (.dK (deckKvs l m j))) m j xs :=
  ⟨fun q u n1 n2 e => by rw [upd_ne n1]; exact d.keep q u n1 n2 e, upd_same, by rw [upd_ne d.ne.symm]; exact d.list, d.ne, fun P q t => tab_upd d.dict kp_dk (fun _ h => by cases h) (d.tabs P q t)⟩
theorem Dk.set {a l : Addr} {H H' : Hp} {m k : Int} {xs ys : List Int} (d : Dk a l H H' m k xs) : Dk a l H (upd H' l (.lst (ys.map V.int))) m k ys :=
  ⟨fun q u n1 n2 e => by rw [upd_ne n2]; exact d.keep q u n1 n2 e, by rw [upd_ne d.ne]; exact d.dict, upd_same, d.ne, fun P q t => tab_upd d.list kp_lst (fun _ h => by cases h) (d.tabs P q t)⟩
theorem dp_ints {K : PySem.W.Frag} {H : Hp} : ∀ (xs : List Int), DpAll K H (xs.map V.int) (xs.map PyData.int)
  | [] => .nil
  | x :: xs => .cons (.int x) (dp_ints xs)
theorem shaped_ints (xs : List Int) : SeqAt.shaped (.list (xs.map PyData.int)) = true := by
  have h1 : ∀ xs : List Int, PyData.canLayAll0 (xs.map PyData.int) = true := fun xs => by
    induction xs with
    | nil => rfl
    | cons x xs ih => simpa [PyData.canLayAll0, PyData.canLay0] using ih
  have h2 : ∀ xs : List Int, PyData.depthAll (xs.map PyData.int) ≤ 1 := fun xs => by
    induction xs with
    | nil => simp [PyData.depthAll]
    | cons x xs ih => simp only [List.map_cons, PyData.depthAll, PyData.depth]; omega
  have := h2 xs
  unfold SeqAt.shaped
  rw [Bool.and_eq_true]
  refine ⟨by simpa [PyData.canLay0] using h1 xs, decide_eq_true ?_⟩
  simp only [PyData.depth]
  omega
theorem eqv_ints_nil : ∀ xs : List Int, (!PyData.eqv (.list (xs.map PyData.int)) (.list [])) = !xs.isEmpty
  | [] => rfl
  | x :: xs => rfl
theorem last_of (xs : List Int) : xs = [] ∨ ∃ (ys : List Int) (y : Int), xs = ys ++ [y] := by
  rcases List.eq_nil_or_concat xs with h | ⟨l, b, h⟩
  · exact .inl h
  · exact .inr ⟨l, b, by rw [h, List.concat_eq_append]⟩
end DL
set_option Elab.async false
set_option linter.all false
set_option maxRecDepth 100000
namespace DL
open PySem PySem.Spec L2
open PyProof.Rows hiding St
/-- a new deck, from the script -/
def spDeck (K : PySem.W.Frag) : Sp := fun vs H Q _ => ∃ (s : Addr) (ns : List Int), vs = [.ref s] ∧ SqL K H s (ns.map V.int) ∧ ns.length ≤ 63 ∧
  ∀ (H' : Hp) (a l : Addr) (m : Int) (xs : List Int), (∀ p o, H p = some o → H' p = some o) → H a = none → H l = none → H' a = some (.dK (deckKvs l m 0)) → H' l = some (.lst (xs.map V.int)) → xs.length ≤ 63 → Q (.ref a) H'
theorem merge_deck {l : Addr} {m : Int} : mergeK [] [(.inr ("left" : Str), .ref l), (.inr ("mixed" : Str), .int m), (.inr ("draws" : Str), .int 0)] = deckKvs l m 0 := rfl
theorem PSs.exF {X : Cx} {sts : List Stmt} {P : FP → Prop} {T : TDS} (h : ∀ F : FP, P F → PSs X sts (sD F T)) : PSs X sts (fun De σ H => ∃ F : FP, P F ∧ sD F T De σ H) :=
  ⟨fun pins s σ H De I ⟨F, e, q⟩ => (h F e).run pins s σ H De I q⟩
/-- the law: a deck is made, the rest is data -/
def spLaw (K : PySem.W.Frag) (n : Nat) (T : TDS) : Sp := fun vs H Q _ => ∃ (s : Addr) (ns : List Int), vs = [.ref s] ∧ SqL K H s (ns.map V.int) ∧ ns.length ≤ 63 ∧ LamX.Tabs (tabsOf K) H ∧
  T (fun _ _ => False) { nx := fun _ => False, rt := fun d => d = .bl true } (.un :: .d .deck :: List.replicate n .un) ∧ ∀ H', Q (.bl true) H'
theorem law_rest {K : PySem.W.Frag} {n : Nat} {T : TDS} {H' : Hp} {Q : VK} {a l : Addr} {m : Int} {xs : List Int} {s0 : V} (h0 : H' a = some (.dK (deckKvs l m 0))) (h1 : H' l = some (.lst (xs.map V.int))) (hx : xs.length ≤ 63) (ht : LamX.Tabs (tabsOf K) H')
    (hT : T (fun _ _ => False) { nx := fun _ => False, rt := fun d => d = .bl true } (.un :: .d .deck :: List.replicate n .un)) (k : ∀ H', Q (.bl true) H') :
    ∃ F : FP, (F.K = K ∧ F.ex = fun _ _ => False) ∧ sD F T { nx := fun _ H' => Q .non H', rt := Q } (some s0 :: some (.ref a) :: List.replicate n none) H' := by
  refine ⟨⟨K, ⟨some (a, l), tabsOf K⟩, fun p => p = a ∨ p = l, H', fun _ _ => False, fun p => p = a ∨ p = l, H'⟩, ⟨rfl, rfl⟩, fun p => p = a ∨ p = l, _, _, ⟨⟨⟨?_, ht⟩, .refl, fun _ h => h, ?_, ?_, fun p h n => (n h).elim, .refl, rfl⟩, by simp, ?_, ?_⟩, hT, ⟨fun _ _ _ _ _ _ z => z.elim, fun v H2 d _ r z => ?_, fun _ _ _ _ _ _ z => z.elim, fun _ _ _ _ _ _ z => z.elim⟩⟩
  · intro a' l' e; cases e; exact ⟨xs, m, 0, h0, h1, hx⟩
  · rintro p ⟨a', l', e, z⟩; cases e; exact z
  · rintro p (rfl | rfl)
    · exact ⟨_, h0, kp_dk⟩
    · exact ⟨_, h1, kp_lst⟩
  · intro i s hs
    match i, hs with
    | 0, hs => cases hs; trivial
    | 1, hs => cases hs; exact ⟨.ref a, rfl, a, l, rfl, rfl⟩
    | i + 2, hs =>
      have : s = .un := by
        have := List.mem_of_getElem? (show (List.replicate n Slot.un)[i]? = some s from hs)
        exact (List.mem_replicate.mp this).2
      subst this
      trivial
  · intro i j p xs ys _ h
    match i, h with
    | 0, h => cases h
    | 1, h => cases h
    | i + 2, h =>
      have := List.mem_of_getElem? (show (List.replicate n Slot.un)[i]? = some (.own xs) from h)
      cases (List.mem_replicate.mp this).2
  · have z : d = .bl true := z
    subst z
    rw [show v = .bl true from r]
    exact k H2
theorem _root_.L2.Same.lay {H H1 : Hp} {q : Addr} {o : HO} (s : Same H H1) (hq : H1 q = none) : Same H (upd H1 q o) := fun b u e => by
  rw [upd_ne (ne_of_none (s b u e) hq)]
  exact s b u e
theorem cut_ints (ns : List Int) (lo hi : Option Int) : ∃ ms : List Int, cutV (ns.map V.int) lo hi = ms.map V.int ∧ ms.length ≤ ns.length := by
  refine ⟨(ns.drop (HT.sIx ns.length 0 lo)).take (HT.sIx ns.length ns.length hi - HT.sIx ns.length 0 lo), ?_, ?_⟩
  · unfold cutV
    rw [List.length_map, ← List.map_drop, ← List.map_take]
  · rw [List.length_take, List.length_drop]
    omega
theorem keepU {H : Hp} {p q : Addr} {o u : HO} (h : H p = some u) (hq : H q = none) : upd H q o p = some u := by
  rw [upd_ne (ne_of_none h hq)]
  exact h
end DL
set_option Elab.async false
set_option linter.all false
set_option maxRecDepth 100000
set_option maxHeartbeats 2000000
namespace DL
open PySem PySem.Spec L2
open PyProof.Rows hiding St
section
variable {P : Program} {w : World} {K : PySem.W.Frag} {mg mb : Str → Option Value} {CX : CXT} {k : Nat} {fa a : Addr} {fd : FuncData} {x : Str} {sp : Sp} {s₁ : Shared} {vs : List Value} {ns : List Int}
/-- the abstract heap at the law's call: the script, if it is no object of the module's own -/
def startH (K : PySem.W.Frag) (a : Addr) (vs : List Value) (ns : List Int) : Hp := fun b => match K.lookup a with
  | some _ => none
  | none => if b = a then some (.frz { cls := .type "list", data := .seq vs.toArray } (.lst (ns.map V.int))) else none
theorem startH_at {b : Addr} {u : HO} (h : startH K a vs ns b = some u) : K.lookup a = none ∧ b = a ∧ u = .frz { cls := .type "list", data := .seq vs.toArray } (.lst (ns.map V.int)) := by
  unfold startH at h
  cases q : K.lookup a with
  | some o => rw [q] at h; cases h
  | none =>
    rw [q] at h
    by_cases hb : b = a
    · rw [if_pos hb] at h
      cases h
      exact ⟨rfl, hb, rfl⟩
    · rw [if_neg hb] at h
      cases h
theorem law_callG (KX : K.In s₁.heap) (hns : s₁.heap.Ns mainGlobals mg) (hb : s₁.heap.Ns builtinsNs mb) (hbb : ∀ x : Str, x ≠ "__name__" → mb x = bootBuiltins x) (hlim : s₁.heap.NoLimit) (hg : s₁.gens = #[])
    (ha : s₁.heap.get? a = some { cls := .type "list", data := .seq vs.toArray }) (hi : IntsAre vs ns) (hl : ns.length ≤ sizeLine) (hr : RoomG k callerA)
    (F : ∀ base : Heap, K.In base → base.Ns mainGlobals mg → FnG P w K mg base CX k fa fd [x] sp) (hbind : ∀ (s : Shared) (u : Value), BindsTo s fd ⟨[u], []⟩ [(x, u)])
    (hsp : ∀ H : Hp, SqL K H a (ns.map V.int) → sp [.ref a] H (fun v _ => v = .bl true) fun _ _ _ => False) (hCX : ∀ H e s', CX [] H s₁ (fun _ _ _ => False) e s' → False) :
    codeAny (model P w) callerA (.call (.ref fa) ⟨[.ref a], []⟩) (fun r s' => r = .ok (.ret (.bool true)) ∧ OldK s₁.heap s'.heap ∧ s'.os = s₁.os ∧ AllBare s'.gens) s₁ := by
  have rel := vals_ints hi
  have hlen : ns.length = vs.length := hi.length.symm
  generalize eH : startH K a vs ns = H
  have at_ : ∀ {b : Addr} {u : HO}, H b = some u → K.lookup a = none ∧ b = a ∧ u = .frz { cls := .type "list", data := .seq vs.toArray } (.lst (ns.map V.int)) := fun {b u} h => startH_at (by rw [eH]; exact h)
  have free : ∀ {b : Addr}, b ≠ a → H b = none := fun {b} h => by
    cases q : H b with
    | none => rfl
    | some u => exact absurd (at_ q).2.1 h
  have held : HOk P w H s₁.heap := fun b u e => by
    obtain ⟨_, rfl, rfl⟩ := at_ e
    exact ⟨ha, by rw [List.length_map]; exact hl, vs, _, rel, ha⟩
  have script : SqL K H a (ns.map V.int) := by
    cases q : K.lookup a with
    | none =>
      refine .inl (.inr ⟨{ cls := .type "list", data := .seq vs.toArray }, ?_⟩)
      rw [← eH]
      unfold startH
      rw [q]
      exact if_pos rfl
    | some o =>
      have e := KX a o q
      rw [ha] at e
      cases e
      exact .inr ⟨_, vs.toArray, _, q, rfl, rfl, rfl, by rw [List.size_toArray, ← hlen]; exact hl, by simpa using rel⟩
  have notDict : ∀ {b : Addr} {o : Obj} {es : Array DictEntry} {ep : Nat}, s₁.heap.get? b = some o → o.data = .dict es ep → H b = none := fun {b o es ep} e d => free fun z => by
    subst z
    rw [ha] at e
    cases e
    cases (show Data.seq vs.toArray _ = Data.dict es ep from d)
  have ns' : ∀ {b : Addr} {m : Str → Option Value}, s₁.heap.Ns b m → (hidT s₁.heap H).Ns b m := fun {b m} ⟨o, es, ep, e, d, r⟩ => ⟨o, es, ep, hidT_get e (notDict e d), d, r⟩
  have inK : K.In (hidT s₁.heap H) := fun b o e => hidT_get (KX b o e) (by
    cases q : H b with
    | none => rfl
    | some u =>
      obtain ⟨h1, h2, _⟩ := at_ q
      rw [h2, h1] at e
      cases e)
  obtain ⟨mc, l1, l2⟩ := hlim
  have e0 : Env0 P w K mg (hidT s₁.heap H) callerA [] s₁ H :=
    ⟨rfl, ⟨inK, ns' hns, ⟨mb, ns' hb, hbb⟩, mc, ns' l1, l2⟩, fun b o e => of_hidT e, Nat.le_of_eq (hidT_size _ _), trivial, (fun b h => by cases h), held, .of_eq hg⟩
  refine codeAny_mono ((F _ inK (ns' hns)).run callerA [] s₁ H ⟨[.ref a], []⟩ [.ref a] [.ref a] _ _ hr e0 (hbind s₁ (.ref a)) (.cons rfl .nil) (hsp H script)) ?_
  rintro (e | fl) s' h
  · exact (hCX H e s' h).elim
  cases fl with
  | next => cases h
  | brk => cases h
  | cont => cases h
  | ret u =>
    obtain ⟨v, H', os, bare, un, hok', r', q⟩ := h
    have q' : v = .bl true := q
    subst q'
    obtain rfl : u = Value.bool true := r'
    refine ⟨rfl, OldK.of_keep fun b o e => ?_, os, bare⟩
    cases q : H b with
    | none => exact un.keep b o e q (by intro z; cases z) (by intro z; cases z)
    | some u =>
      obtain ⟨_, rfl, rfl⟩ := at_ q
      obtain ⟨e2, _⟩ := hok' b _ (un.frzs b _ _ q)
      rw [ha] at e
      cases e
      exact e2
end
theorem walk_ofG {l : PySem.W.OpenLaw} {n k : Nat} {q : Program} {loose : List Str} {XP : (Str → Option Value) → Heap → Prop} {YP : World → Heap → Prop} {d : DefRec} {x : Str}
    (hn : l.most = some n) (hn2 : n ≤ sizeLine) (hdf : d.params.defaults = []) (hr : RoomG k callerA)
    (F : ∀ (w : World) (mg : Str → Option Value) (fa : Addr) (h : Heap), YP w h → h.Ns mainGlobals mg → mg d.name = some (.ref fa) →
      ∃ (K : PySem.W.Frag) (fd : FuncData) (sp : Sp), K.In h ∧ (∀ (s : Shared) (u : Value), BindsTo s fd ⟨[u], []⟩ [(x, u)]) ∧
        (∀ (H : Hp) (a : Addr) (ns : List Int), ns.length ≤ n → SqL K H a (ns.map V.int) → sp [.ref a] H (fun v _ => v = .bl true) fun _ _ _ => False) ∧
        ∀ base : Heap, K.In base → base.Ns mainGlobals mg → FnG l.prog w K mg base CX0 k fa fd [x] sp) :
    PySem.W.WalkO q loose XP YP l.row.toRowW d [] (fun f vs => PySem.call f vs) :=
  Att.attach_call hn hdf fun w s₀ s₁ mg mb fa o pm cd doc a vs ns G Y ho hd hcd hmg hobj hints hlen hg =>
    let ⟨_, _, _, KX, hb, hsp, hF⟩ := F w mg fa _ Y G.T.g hmg
    law_callG KX G.T.g G.T.b G.T.builtins G.T.nolimit hg hobj hints (Nat.le_trans hlen hn2) hr hF hb (fun H hS => hsp H a ns hlen hS) fun _ _ _ z => z
/-! ### the head: facts, and some more -/
def obsE (n : Nat) (fa : List He.Fa) (fn : List He.DefD) (ex : PySem.W.Frag → Bool) (g : Addr → Option Obj) : He.AlD × Bool := (He.obsD fa fn (He.frG g (He.asD g n ++ [cStatics])), ex (He.frG g (He.asD g n ++ [cStatics])))
def hookE (n : Nat) (fa : List He.Fa) (fn : List He.DefD) (ex : PySem.W.Frag → Bool) : PySem.W.Hook where
  α := He.AlD × Bool
  obs := fun s => obsE n fa fn ex s.heap.get?
  val := fun _ => (He.valD fn, true)
  says := fun _ h => ∃ K : PySem.W.Frag, K.In h ∧ He.SaysD fa fn K ∧ ex K = true
  of := fun _ _ e => ⟨_, He.frG_in, congrArg (fun z : He.AlD × Bool => z.1) e, congrArg (fun z : He.AlD × Bool => z.2) e⟩
  keeps := fun _ _ _ ⟨K, hK, c⟩ k => ⟨K, PySem.W.Frag.In.keeps hK k, c⟩
theorem obsE_eq {n : Nat} {fa : List He.Fa} {fn : List He.DefD} {ex : PySem.W.Frag → Bool} {g : Addr → Option Obj} {s : Shared} (h : ∀ a, g a = s.heap.get? a) : obsE n fa fn ex g = (hookE n fa fn ex).obs s := by
  have e : g = s.heap.get? := funext h
  rw [e]
  rfl
def bltB (K : PySem.W.Frag) (x : Str) (b : String) : Bool := decide (PySem.W.nsIn K mainGlobals x = some (some (.builtin b)))
theorem blt_ok {K : PySem.W.Frag} {h : Heap} {mg : Str → Option Value} (X : K.In h) (G : h.Ns mainGlobals mg) {x : Str} {b : String} (c : bltB K x b = true) : mg x = some (.builtin b) := PySem.W.mg_of X G (of_decide_eq_true c)
end DL
set_option Elab.async false
set_option linter.all false
set_option maxRecDepth 100000
set_option maxHeartbeats 2000000
/-! exceptions over data: raise, calls that raise, try -/
namespace DL
open PySem PySem.Spec L2
open PyProof.Rows hiding St
/-- what the reading wishes of exceptions is what is wished below -/
def WOk (F : FP) (W : WX) : Prop := ∀ N σ H env x c od, FOk F N σ H env → XRep F.K F.Z N H x c od → F.ex x env → W c od σ H
theorem wok_none {F : FP} (h : F.ex = fun _ _ => False) {W : WX} : WOk F W := fun _ _ _ _ _ _ _ _ _ z => by
  rw [h] at z
  exact z.elim
theorem XRep.less {K : PySem.W.Frag} {Z : Zn} {N N' : Addr → Prop} {H : Hp} {x : DX} {c : Value} {od : Option Addr} (hn : ∀ p, N' p → N p) (h : XRep K Z N H x c od) : XRep K Z N' H x c od := by
  obtain ⟨h1, h2 | ⟨d, vs, e, n, h3, h4⟩⟩ := h
  · exact ⟨h1, .inl h2⟩
  · exact ⟨h1, .inr ⟨d, vs, e, fun z => n (hn d z), h3, h4.less hn⟩⟩
section
variable {P : Program} {w : World} {K : PySem.W.Frag} {mg : Str → Option Value} {base : Heap} {k : Nat} {f : Addr} {fd : FuncData} {N ps : List Str}
/-- a def that may let exceptions out -/
theorem fng_dataX {x qual : Str} {params : Arguments} {body : List Stmt} {scope : Scope} {dvs : List V} {kws : List (Str × V)} {T : TDS} (Fd : FunD K x qual params body scope dvs kws f fd) (S : FnScope N ps scope)
    (hb : ∀ (cdv : Value) (A : Around) (outer : List Env) (s : Shared) (H : Hp) (E : XK) (F : FP), F.K = K → WOk F (fun c od _ H' => E c od H') → RoomG k (A.deeper (envOfC qual scope s.heap.objs.size f cdv)) →
      PSs (cxOf (CX P w) P w K mg base N qual scope f cdv A outer s H E) body (sD F T)) : FnG P w K mg base (CX P w) (k + 1) f fd ps (spD K ps.length fun ξ ds Q => tfOf N.length T ξ ds Q) := by
  refine fng_of Fd S ?_ ?_
  · rintro vs H Q E ⟨Z, B, ds, Qd, Ed, b, r, hl, _⟩
    rw [← r.length, hl]
  · rintro cdv A outer s H vs Q E room ⟨Z, B, ds, Qd, Ed, b, r, hl, hT, hq, he⟩
    refine ⟨_, hb cdv A outer s H E ⟨K, Z, B, H, fun x _ => Ed x, B, H⟩ rfl (fun N' σ H' env x c od f' xr hx => he x c od H' f'.n.ext (xr.less f'.n.sub) hx) room, ?_⟩
    exact ⟨B, _, _, start_ok b r, hT, ⟨fun N' σ' H' env' f' _ q => hq _ _ _ f'.n.ext rep_non q, fun v H' d e r' q => hq v H' d e r' q, fun _ _ _ _ _ _ q => q.elim, fun _ _ _ _ _ _ q => q.elim⟩⟩
end
section
variable {X : Cx} {F : FP} {W : WX} {k n : Nat} {f : Addr} {fd : FuncData} {ps ks : List Str} {x : Str} {p pos : Pos} {e : Expr} {es : List Expr} {kws : List Keyword} {Tas Tks : TDA} {T : TF} {sp : Sp}
/-! ### calls that may raise -/
theorem run_gs {CX : CXT} {E : L2.St → XK} {pins : List (Addr × Obj)} {σ : L2.St} {H : Hp} {s : Shared} {Q : VK} {us : List Value} {vs : List V} {args : Args} (G : FnG X.prog X.w X.K X.mg X.base CX k f fd ps sp) (hr : RoomG k X.A) (hb : BindsTo s fd args (ps.zip us)) (hx : PassesAt CX X σ (E σ))
    (I : Inv X pins σ H s) (r : Vals vs us) (h : sp vs H Q (E σ)) : codeAny (model X.prog X.w) X.A (.call (.ref f) args) (fun r s' => match r with | .ok (.ret u) => EP X pins σ Q u s' | .ok _ => False | .error e => X.xe e s') s := by
  refine codeAny_mono (G.run X.A X.stack s H args us vs Q (E σ) hr I.env0 hb r h) fun r s' hq => ?_
  cases r with
  | error e => exact hx pins H s e s' I hq
  | ok fl =>
    cases fl with
    | ret u => exact I.after hq
    | next => exact hq
    | brk => exact hq
    | cont => exact hq
theorem pe_callGS {CX : CXT} {E : L2.St → XK} {t : TA} (G : FnG X.prog X.w X.K X.mg X.base CX k f fd ps sp) (hr : RoomG k X.A) (hg : Gl X x) (hm : X.mg x = some (.ref f)) (hk : PySem.W.keepIn X.K (.ref f) = true) (hb : Binds X.K fd ps []) (hx : ∀ σ, PassesAt CX X σ (E σ))
    (ha : PA X (e :: es) t) (hdb : (x == ("__debug__" : Str)) = false := by decide) (he : starEach (e :: es) X.env = (false, eval e X.env) :: starEach es X.env := by rfl) (hpl : (backTo pos (starEach es X.env)).any (·.1) = false := by rfl) :
    PE X (.Call (.Name x p) (e :: es) [] pos) (tCallS sp E t) := ⟨fun pins s σ H Q I h =>
  wpAny_Call_Name_kw (ld_glob I hg hm (PySem.W.callWith_K (h₀ := X.base) I.ok.mod.kin hk (thn (ha.run pos pins s σ H _ I h) fun us s1 ⟨vs, H1, I1, r, q⟩ => ⟨I1.kIn, by
    have hl : us.length = ps.length := r.length.symm.trans (G.len _ _ _ _ q)
    have b := hb s1 us I1.kIn (by simpa using hl)
    rw [List.append_nil] at b
    refine wpAny_call (codeAny_mono (run_gs G hr b (hx σ) I1 r q) fun r s' hq => ?_)
    cases r with
    | error e => exact hq
    | ok fl => cases fl <;> exact hq⟩) he hpl) hdb)⟩
def dCallX (n : Nat) (T : TF) (Ta : TDA) : TDE := fun ξ env Q => Ta ξ env fun ds => ds.length = n ∧ T (fun x => ξ x env) ds Q
theorem tCallX_imp (hK : F.K = X.K) (wo : WOk F W) : ∀ σ H Q, tD F (dCallX n T Tas) σ H Q → tCallS (spD X.K n T) (WE W) (tDA F Tas) σ H Q := by
  rintro σ H Q ⟨N, env, Qd, f, hT, k⟩
  refine ⟨N, env, _, f, hT, fun vs H1 ds e1 r1 q1 => ?_⟩
  have f1 := f.ext' e1
  refine ⟨F.Z, N, ds, Qd, _, by rw [← hK]; exact f1.n.bok, by rw [← hK]; exact r1, q1.1, q1.2, fun v H2 d e2 r2 q2 => k v H2 d (e1.trans e2) (by rw [hK]; exact r2) q2, fun x c od H2 e2 xr hx => ?_⟩
  exact wo N σ H2 env x c od (f1.ext' e2) (by rw [hK]; exact xr) hx
theorem d_callX (G : FnG X.prog X.w X.K X.mg X.base (CX X.prog X.w) k f fd ps (spD X.K n T)) (tk : Takes X W) (wo : WOk F W) (hK : F.K = X.K) (hr : RoomG k X.A) (hg : Gl X x) (hm : X.mg x = some (.ref f)) (hk : PySem.W.keepIn X.K (.ref f) = true) (hb : Binds X.K fd ps [])
    (ha : PA X (e :: es) (tDA F Tas)) (hdb : (x == ("__debug__" : Str)) = false := by decide) (he : starEach (e :: es) X.env = (false, eval e X.env) :: starEach es X.env := by rfl) (hpl : (backTo pos (starEach es X.env)).any (·.1) = false := by rfl) :
    PE X (.Call (.Name x p) (e :: es) [] pos) (tD F (dCallX n T Tas)) :=
  PE.imp (pe_callGS G hr hg hm hk hb (fun σ => passAt tk σ) ha hdb he hpl) (tCallX_imp hK wo)
def dCallKX (m n : Nat) (idx : List Nat) (T : TF) (Tk : TDA) : TDE := fun ξ env Q => Tk ξ env fun ds => (ds.length = m ∧ (perm idx ds).length = n) ∧ T (fun x => ξ x env) (perm idx ds) Q
theorem d_callKX {idx : List Nat} {m : Nat} (G : FnG X.prog X.w X.K X.mg X.base (CX X.prog X.w) k f fd ps (spD X.K n T)) (tk : Takes X W) (wo : WOk F W) (hK : F.K = X.K) (hr : RoomG k X.A) (hg : Gl X x) (hm : X.mg x = some (.ref f)) (hk : PySem.W.keepIn X.K (.ref f) = true) (hb : KB fd ps ks idx)
    (hkw : PK X kws (tDA F Tks)) (hall : (backToKw pos (keywordEach kws X.env)).all (·.1.isSome) = true := by rfl) (hks : (backToKw pos (keywordEach kws X.env)).filterMap (·.1) = ks := by rfl) (hdb : (x == ("__debug__" : Str)) = false := by decide)
    (hpl : ((backTo pos (starEach [] X.env)).any (·.1) || (backToKw pos (keywordEach kws X.env)).any (·.1.isNone)) = false := by rfl) (hml : ks.length = m := by rfl) : PE X (.Call (.Name x p) [] kws pos) (tD F (dCallKX m n idx T Tks)) := ⟨fun pins s σ H Q I h => by
  subst hml
  obtain ⟨N, env, Qd, ff, hT, kk⟩ := h
  refine wpAny_Call_Name_kw (ld_glob I hg hm (PySem.W.callWith_KW0 (h₀ := X.base) I.ok.mod.kin hk hall ?_ hpl) hdb)
  refine thn (hkw.run pos pins s σ H (fun zs H2 => ∃ ds, Ext F.Z H H2 ∧ Reps F.K F.Z N H2 ds zs ∧ (ds.length = ks.length ∧ (perm idx ds).length = n) ∧ T (fun x => F.ex x env) (perm idx ds) Qd) I ⟨N, env, _, ff, hT, fun vs H1 ds e1 r1 q1 => ⟨ds, e1, r1, q1.1, q1.2⟩⟩) ?_
  rintro ws s2 ⟨zs, H2, I2, rz, ds, e1, r1, l2, q2⟩
  rw [hks]
  have f1 := ff.ext' e1
  have hl : zs.length = ks.length := r1.length.symm.trans l2.1
  refine ⟨I2.kIn, wpAny_call (codeAny_mono (run_gs (E := WE W) (Q := Q) G hr (hb s2 ws (rz.length.symm.trans hl)) (passAt tk σ) I2 (perm_vals rz idx) ?_) fun r s' hq => ?_)⟩
  · refine ⟨F.Z, N, perm idx ds, Qd, _, by rw [← hK]; exact f1.n.bok, by rw [← hK]; exact perm_reps r1 idx, l2.2, q2, fun v H3 d e2 r2 q => kk v H3 d (e1.trans e2) (by rw [hK]; exact r2) q, fun x c od H3 e2 xr hx => ?_⟩
    exact wo N σ H3 env x c od (f1.ext' e2) (by rw [hK]; exact xr) hx
  · cases r with
    | error e => exact hq
    | ok fl => cases fl <;> exact hq⟩
/-! ### raise X() -/
theorem pmk_bare {C : Addr} {bmB : List Value} {B newId initId : String} (Fb : ExcBaseFacts B newId initId bmB) (q : PySem.W.excIn X.K C bmB newId = true) (gC : X.mg x = some (.ref C)) (kC : PySem.W.keepIn X.K (.ref C) = true) (r : Raises X (.ref C)) (hg : Gl X x)
    (hdb : (x == ("__debug__" : Str)) = false := by decide) : PMk X (.Call (.Name x p) [] [] pos) (fun _ H Q => Q (.ref C) none H) := by
  intro pins s σ H Q I h
  refine wpAny_Call_Name_kw (ld_glob I hg gC ?_ hdb)
  refine PySem.W.callWith_K0 I.kIn kC ?_
  show wpAny _ _ (call (.ref C) []) _ _ _
  obtain ⟨bm, N, nm, qn, bs, hdct, sn, sub, ab, col, dd, k0, k1, k2, k3, k5, mN, hC, hN, hni, T⟩ := exc_obj I.kIn q
  exact wpAny_call_exc_subT Fb T hC hN hni (fun h' e hm => mk_of I hm r h (I.hok.gone hm.new)) (Nat.zero_le _)
def dRaise0 (n : Str) : TDS := fun ξ _ env => ξ ⟨n, []⟩ env
theorem ds_raise0 {C : Addr} {bmB : List Value} {B newId initId : String} {pos' : Pos} (hc : X.calm = true) (tk : Takes X W) (wo : WOk F W) (hK : F.K = X.K) (Fb : ExcBaseFacts B newId initId bmB) (q : PySem.W.excIn X.K C bmB newId = true) (gC : X.mg x = some (.ref C)) (cC : clsAt X.K x = .ref C)
    (kC : PySem.W.keepIn X.K (.ref C) = true) (r : Raises X (.ref C)) (hg : Gl X x) (hdb : (x == ("__debug__" : Str)) = false := by decide) : PS X (.Raise (some (.Call (.Name x p) [] [] pos)) none pos') (sD F (dRaise0 x)) :=
  PS.imp (ps_raise hc tk (pmk_bare Fb q gC kC r hg hdb)) (by
  rintro De σ H ⟨N, env, Dd, f, hT, ok⟩
  exact wo N σ H env ⟨x, []⟩ _ none f ⟨by rw [hK]; exact cC.symm, .inl ⟨rfl, rfl⟩⟩ hT)
end
/-! ### try, one clause without a name -/
theorem FOk.rebase {F : FP} {N : Addr → Prop} {σ : L2.St} {H : Hp} {env : SE} (f : FOk F N σ H env) (ex : XW) : FOk { F with ex := ex, N1 := N, H1 := H } N σ H env := ⟨⟨f.n.deck, f.n.ext, f.n.sub, f.n.zin, f.n.all, f.n.new, .refl, f.n.tb⟩, f.len, fun i s h => by
  have q := f.slot i s h
  cases s <;> exact q, f.apart⟩
theorem FOk.back {F : FP} {N N0 : Addr → Prop} {σ : L2.St} {H H0 : Hp} {env : SE} {ex : XW} (f : FOk { F with ex := ex, N1 := N0, H1 := H0 } N σ H env) (g : Evo F.N1 F.H1 N0 H0) : FOk F N σ H env := ⟨⟨f.n.deck, f.n.ext, f.n.sub, f.n.zin, f.n.all, f.n.new, g.trans f.n.gr, f.n.tb⟩, f.len, fun i s h => by
  have q := f.slot i s h
  cases s <;> exact q, f.apart⟩
def dTry1 (m : Str → Option Bool) (body h : TDS) : TDS := fun ξ De env => body (fun x env' => match m x.cls with
  | some true => h (fun _ _ => False) De env'
  | some false => ξ x env'
  | none => False) De env
theorem PSs.exP {X : Cx} {sts : List Stmt} {α : Sort _} {t : α → TS} (h : ∀ i, PSs X sts (t i)) : PSs X sts (fun De σ H => ∃ i, t i De σ H) := ⟨fun pins s σ H De I ⟨i, q⟩ => (h i).run pins s σ H De I q⟩
theorem PSs.andP {X : Cx} {sts : List Stmt} {p : Prop} {t : TS} (h : p → PSs X sts t) : PSs X sts (fun De σ H => p ∧ t De σ H) := ⟨fun pins s σ H De I ⟨i, q⟩ => (h i).run pins s σ H De I q⟩
theorem ds_try1 {X : Cx} {F : FP} {W : WX} {x : Str} {c : Value} {m : Str → Option Bool} {body suite : List Stmt} {b₀ : Stmt} {np pos pos' : Pos} {Tb Th : TDS} (hK : F.K = X.K) (hs : X.stack = X.env :: X.outer) (hf : X.env.frame = some X.env.locals) (hc : Names X x c) (tk : Takes X W) (wo : WOk F W)
    (hm : ∀ n b, m n = some b → PySem.W.exmOne X.K (clsAt X.K n) c = some b)
    (hb : ∀ (W : WX) (pn : List (Addr × Obj)) (xe : Value → Shared → Prop) (F' : FP), Takes (X.tr pn xe) W → PassesOwn (model X.prog X.w) X.A X.env xe → F'.K = F.K → WOk F' W → PSs (X.tr pn xe) body (sD F' Tb))
    (hsu : ∀ (a : Addr) (pn : List (Addr × Obj)), PSs (X.suite a pn) (b₀ :: suite) (sD F.calm Th)) :
    PS X (.Try body [.ExceptHandler (some (.Name x np)) none (b₀ :: suite) pos'] [] [] pos) (sD F (dTry1 m Tb Th)) := by
  refine PS.imp (ps_try_only (tb := fun W De σ H => ∃ F' : FP, (F'.K = F.K ∧ WOk F' W) ∧ sD F' Tb De σ H) (ts := fun _ _ _ => sD F.calm Th) hs hf hc tk (fun W pn xe t1 p1 => PSs.exP fun F' => PSs.andP fun h => hb W pn xe F' t1 p1 h.1 h.2) fun a oe cls d pn _ _ => hsu a _) ?_
  rintro De σ H ⟨N, env, Dd, f, hT, ok⟩
  have g := f.n.gr
  refine ⟨{ F with ex := _, N1 := N, H1 := H }, ⟨rfl, ?_⟩, N, env, Dd, f.rebase _, hT, ⟨fun N' σ' H' env' f' ev q => ok.nx N' σ' H' env' (f'.back g) ev q, ok.rt, fun N' σ' H' env' f' ev q => ok.bk N' σ' H' env' (f'.back g) ev q, fun N' σ' H' env' f' ev q => ok.ct N' σ' H' env' (f'.back g) ev q⟩⟩
  intro N' σ' H' env' y c' od f' xr hx
  have e := xr.1
  have fb := f'.back g
  have hx : (match m y.cls with
    | some true => Th (fun _ _ => False) Dd env'
    | some false => F.ex y env'
    | none => False) := hx
  cases q : m y.cls with
  | none => rw [q] at hx; exact hx.elim
  | some b =>
    rw [q] at hx
    have em := hm _ _ q
    refine ⟨b, by rw [e]; rw [← hK] at em ⊢; exact em, fun hb1 a _ => ?_, fun hb0 => ?_⟩
    · subst hb1
      have ok' := ok.of f'.n.gr
      exact ⟨N', env', Dd, fb.wish _, hx, ⟨fun N2 σ2 H2 env2 f2 ev q => ok'.nx N2 σ2 H2 env2 f2.unwish ev q, ok'.rt, fun N2 σ2 H2 env2 f2 ev q => ok'.bk N2 σ2 H2 env2 f2.unwish ev q, fun N2 σ2 H2 env2 f2 ev q => ok'.ct N2 σ2 H2 env2 f2.unwish ev q⟩⟩
    · subst hb0
      exact wo N' σ' H' env' y c' od fb xr hx
end DL
set_option Elab.async false
set_option linter.all false
set_option maxRecDepth 100000
set_option maxHeartbeats 2000000
/-! more operators over data -/
namespace DL
open PySem PySem.Spec L2
open PyProof.Rows hiding St
/-! ### gcd of three -/
theorem args_gcd3 (a b c : Value) : argsOk "math.gcd" ⟨[a, b, c], []⟩ := by unfold argsOk; kernel_rfl
theorem gives_gcd3 (a : Int) (t : Tok) (b : Int) (u : Tok) (c : Int) (v : Tok) : Gives (Builtin.«math.gcd» ⟨[.int a t, .int b u, .int c v], []⟩) (.int (((((Nat.gcd 0 a.natAbs).gcd b.natAbs).gcd c.natAbs : Nat) : Int))) :=
  .of_wp fun M A E s Q h => by
    obtain ⟨hp, g, d, tk, os⟩ := s
    wp_walk
    exact ⟨_, rfl, h⟩
def rGcd3 : List V → Hp → VK → Prop := fun vs H Q => ∃ a b c : Int, vs = [.int a, .int b, .int c] ∧ Q (.int (((Nat.gcd a.natAbs b.natAbs).gcd c.natAbs : Nat) : Int)) H
section
variable {X : Cx} {F : FP} {a b c e : Expr} {es : List Expr} {pos : Pos} {Ta Tb Tc : TDE} {Tas : TDA}
theorem cr_gcd3 : CallR X (.builtin "math.gcd") rGcd3 := by
  intro pins s σ H vs us Q I r h
  obtain ⟨a, b, c, rfl, q⟩ := h
  cases r with
  | cons r1 r =>
    obtain ⟨t, rfl⟩ := r1
    obtain ⟨u, v, rfl⟩ := Vals.int2 r
    have g := gives_gcd3 a t b u c v
    rw [Nat.gcd_zero_left] at g
    exact call_function_meets PySem.W.MGF.kind_gcd PySem.W.MGF.plain_gcd PySem.W.MGF.entry_gcd (args_gcd3 _ _ _) g.meets ⟨.int _, H, I.tok _, ⟨_, rfl⟩, q⟩
def gGcd3 : GA := fun xs Q => match xs with
  | [.int a, .int b, .int c] => Q (.int (((Nat.gcd a.natAbs b.natAbs).gcd c.natAbs : Nat) : Int))
  | _ => False
theorem cd_gcd3 : CallD F rGcd3 gGcd3 := ⟨by
  intro N H vs ds Qd Q n r h k
  unfold gGcd3 at h
  split at h
  · obtain ⟨v1, r1, rfl, h1, v2, r2, rfl, h2, v3, r3, rfl, h3, rfl⟩ := r
    cases (show v1 = .int _ from h1)
    cases (show v2 = .int _ from h2)
    cases (show v3 = .int _ from h3)
    exact ⟨_, _, _, rfl, k _ _ _ Ext.refl rep_int h⟩
  · exact h.elim⟩
/-! ### + and * of ints, lists, tuples -/
theorem opd_or {r r' : R2} {g g' g2 : G2} (h : OpD F r g) (h' : OpD F r' g') (e : ∀ x y Q, g2 x y Q → g x y Q ∨ g' x y Q) : OpD F (fun x y H Q => r x y H Q ∨ r' x y H Q) g2 := ⟨fun N H x y dx dy Qd Q n rx ry hg k => (e dx dy Qd hg).elim (fun q => .inl (h.ok N H x y dx dy Qd Q n rx ry q k)) (fun q => .inr (h'.ok N H x y dx dy Qd Q n rx ry q k))⟩
def gCatL : G2 := fun x y Q => match x, y with
  | .lst xs, .lst ys => xs.length + ys.length ≤ sizeLine ∧ Q (.lst (xs ++ ys))
  | _, _ => False
theorem opd_catL : OpD F rCat gCatL := ⟨by
  intro N H x y dx dy Qd Q n rx ry h k
  unfold gCatL at h
  split at h
  · obtain ⟨l, vs, rfl, nl, hl, rl⟩ := rx
    obtain ⟨b, ws, rfl, nb, hb, rb⟩ := ry
    exact ⟨l, b, vs, ws, rfl, rfl, hl, hb, by rw [← rl.length, ← rb.length]; exact h.1, fun p hp => k _ _ _ (n.lay hp) (rep_newL n hp (rl.append rb)) h.2⟩
  · exact h.elim⟩
def gCatT : G2 := fun x y Q => match x, y with
  | .tup xs, .tup ys => xs.length + ys.length ≤ sizeLine ∧ Q (.tup (xs ++ ys))
  | _, _ => False
theorem opd_catT : OpD F (rCatA F.K) gCatT := ⟨by
  intro N H x y dx dy Qd Q n rx ry h k
  unfold gCatT at h
  split at h
  · rename_i xs ys
    have rx0 := rx
    have ry0 := ry
    obtain ⟨l, vs, rfl, hl, rl⟩ := rx
    obtain ⟨b, ws, rfl, hb, rb⟩ := ry
    refine ⟨l, b, vs, ws, rfl, rfl, sqt_of hl, sqt_of hb, by rw [← rl.length, ← rb.length]; exact h.1, fun e => ?_, fun e1 e2 => ?_, fun _ _ p hp => k _ _ _ (n.lay hp) (rep_newT n hp (rl.append rb)) h.2⟩
    · have : xs = [] := List.eq_nil_of_length_eq_zero (by rw [rl.length, e]; rfl)
      subst this
      exact k _ _ _ Ext.refl ry0 h.2
    · have : ys = [] := List.eq_nil_of_length_eq_zero (by rw [rb.length, e2]; rfl)
      subst this
      refine k _ _ _ Ext.refl rx0 ?_
      have z := h.2
      rw [List.append_nil] at z
      exact z
  · exact h.elim⟩
def gAddA : G2 := fun x y Q => match x, y with
  | .int i, .int j => Q (.int (i + j))
  | .lst xs, .lst ys => xs.length + ys.length ≤ sizeLine ∧ Q (.lst (xs ++ ys))
  | .tup xs, .tup ys => xs.length + ys.length ≤ sizeLine ∧ Q (.tup (xs ++ ys))
  | _, _ => False
theorem opd_addA : OpD F (fun x y H Q => rI0 (fun i j => .int (i + j)) x y H Q ∨ (rCat x y H Q ∨ rCatA F.K x y H Q)) gAddA :=
  opd_or (g := gAdd) (g' := fun x y Q => gCatL x y Q ∨ gCatT x y Q) (opd_I0 fun _ _ _ _ => rfl) (opd_or opd_catL opd_catT fun _ _ _ h => h) (by
    intro x y Q h
    unfold gAddA at h
    split at h
    · exact .inl h
    · exact .inr (.inl h)
    · exact .inr (.inr h)
    · exact h.elim)
theorem d_addA (hK : F.K = X.K) (ha : PE X a (tD F Ta)) (hb : PE X b (tD F Tb)) : PE X (.BinOp a .Add b pos) (tD F (dBin gAddA Ta Tb)) := by
  have o := opd_addA (F := F)
  rw [hK] at o
  exact d_op (op_add.or (op_cat.or op_catA)) o ha hb
def gRepL : G2 := fun x y Q => match x, y with
  | .lst xs, .int k => (-(2 ^ 63) ≤ k ∧ k < 2 ^ 63 ∧ xs.length * k.toNat ≤ sizeLine) ∧ Q (.lst (List.replicate k.toNat xs).flatten)
  | _, _ => False
theorem reps_flat {K : PySem.W.Frag} {Z : Zn} {N : Addr → Prop} {H : Hp} {xs : List D} {vs : List V} (r : Reps K Z N H xs vs) : ∀ n, Reps K Z N H (List.replicate n xs).flatten (List.replicate n vs).flatten
  | 0 => rfl
  | n + 1 => by
    rw [List.replicate_succ, List.replicate_succ, List.flatten_cons, List.flatten_cons]
    exact r.append (reps_flat r n)
theorem opd_repL : OpD F rRep gRepL := ⟨by
  intro N H x y dx dy Qd Q n rx ry h k
  unfold gRepL at h
  split at h
  · obtain ⟨l, vs, rfl, nl, hl, rl⟩ := rx
    cases (show y = .int _ from ry)
    exact ⟨l, _, vs, rfl, rfl, hl, h.1.1, h.1.2.1, by rw [← rl.length]; exact h.1.2.2, fun p hp => k _ _ _ (n.lay hp) (rep_newL n hp (reps_flat rl _)) h.2⟩
  · exact h.elim⟩
def gMulA : G2 := fun x y Q => match x, y with
  | .int i, .int j => CMulW i j ∧ Q (.int (i * j))
  | .lst xs, .int k => (-(2 ^ 63) ≤ k ∧ k < 2 ^ 63 ∧ xs.length * k.toNat ≤ sizeLine) ∧ Q (.lst (List.replicate k.toNat xs).flatten)
  | _, _ => False
theorem opd_mulA : OpD F (fun x y H Q => rI CMulW (fun i j => .int (i * j)) x y H Q ∨ rRep x y H Q) gMulA :=
  opd_or (g := gMul) (opd_I fun _ _ _ _ => rfl) opd_repL (by
    intro x y Q h
    unfold gMulA at h
    split at h
    · exact .inl h
    · exact .inr h
    · exact h.elim)
theorem d_mulA (ha : PE X a (tD F Ta)) (hb : PE X b (tD F Tb)) : PE X (.BinOp a .Mult b pos) (tD F (dBin gMulA Ta Tb)) := d_op (op_mulW.or op_rep) opd_mulA ha hb
/-! ### // of great ints, by any divisor but 0 -/
def CDivB (i j : Int) : Prop := j ≠ 0 ∧ (i.natAbs.log2 < 13000 ∨ j.natAbs.log2 < 8990)
theorem near_div {i j : Int} (h : i.natAbs.log2 < 13000) : Builtin.divisionGoesByPylong i j = false := by
  unfold Builtin.divisionGoesByPylong
  have a : (if i == 0 then 0 else i.natAbs.log2 / 30 + 1) ≤ 434 := by split <;> omega
  simp only [Bool.and_eq_false_iff, decide_eq_false_iff_not]
  omega
theorem far_div {i j : Int} (h : j.natAbs.log2 < 8990) : Builtin.divisionGoesByPylong i j = false := by
  unfold Builtin.divisionGoesByPylong
  have a : (if j == 0 then 0 else j.natAbs.log2 / 30 + 1) ≤ 300 := by split <;> omega
  simp only [Bool.and_eq_false_iff, decide_eq_false_iff_not]
  omega
theorem op_fdivB : OpR X (binaryOp .FloorDiv) (rI CDivB fun i j => .int (i.fdiv j)) := opI fun i j _ _ _ _ _ hc q => floordiv_int hc.1 q (.inl (hc.2.elim near_div far_div))
abbrev gDivB : G2 := gI CDivB fun i j => .int (i.fdiv j)
theorem d_divB (ha : PE X a (tD F Ta)) (hb : PE X b (tD F Tb)) : PE X (.BinOp a .FloorDiv b pos) (tD F (dBin gDivB Ta Tb)) := d_op op_fdivB (opd_I fun _ _ _ _ => rfl) ha hb
end
end DL
set_option Elab.async false
set_option linter.all false
set_option maxRecDepth 100000
set_option maxHeartbeats 2000000
/-! texts of great ints: the digits' limit is the usual one -/
namespace DL
open PySem PySem.Spec L2
open PyProof.Rows hiding St
/-- the limit of digits was never set -/
def NoMax (h : Heap) : Prop := ∃ mc, h.Ns cStatics mc ∧ mc "sys.int_max_str_digits" = none
theorem NoMax.keeps {h h' : Heap} (x : NoMax h) (k : ∀ b o, h.get? b = some o → h'.get? b = some o) : NoMax h' := by
  obtain ⟨mc, ⟨o, es, ep, e, d, r⟩, q⟩ := x
  exact ⟨mc, ⟨o, es, ep, k _ _ e, d, r⟩, q⟩
section
variable {M : Model} {A : Around} {E : Value → Shared → Prop} {s : Shared}
theorem over_none {a : Int} (h : a.natAbs.log2 < 12900) (hn : NoMax s.heap) {Q : Option Nat → Shared → Prop} (q : Q none s) : wpAny M A (Builtin.overDigitLimit? a) Q E s := by
  unfold Builtin.overDigitLimit?
  by_cases h1 : a.natAbs.log2 < 1920
  · rw [if_pos h1]; exact wpAny_pure q
  rw [if_neg h1]
  obtain ⟨mc, hns, hk⟩ := hn
  unfold Builtin.intMaxStrDigits
  refine wpAny_bind (wpAny_bind (wpAny_nsGet hns ?_))
  rw [hk]
  refine wpAny_pure ?_
  have h2 : ¬ (a.natAbs.log2 / 30 + 1 > 1000) := by omega
  have h3 : ((4300 == 0) || decide (a.natAbs.log2 < 3 * 4300)) = true := by
    rw [Bool.or_eq_true]; exact .inr (decide_eq_true (by omega))
  simp only [h2, if_false, h3, if_true]
  exact wpAny_pure q
theorem gives_repr_big (a : Int) (t : Tok) (h : a.natAbs.log2 < 12900) : GivesAt (fun s => NoMax s.heap) (Builtin.«int.__repr__» ⟨[.int a t], []⟩) (.str (toString a)) := by
  intro prog w A R s hn hp
  unfold Builtin.«int.__repr__»
  show wpAny (model prog w) A.in1 (do let r ← Builtin.overDigitLimit? a; _) _ _ s
  refine wpAny_bind (over_none h hn ?_)
  exact (show Gives _ (.str (toString a)) from .of_eq rfl) prog w A R s hp
end
section
variable {prog : Program} {w : World} {A : Around} {E : Value → Shared → Prop} {s : Shared}
theorem big_fits {a : Int} (h : a.natAbs.log2 < 12900) : (Str.ofString (toString a)).length ≤ sizeLine := by
  have e := int_text_length_le (k := 12900) (by decide) h
  rw [PySem.ofString_length, sizeLine_eq]
  omega
theorem reprObj_big {a : Int} {t : Tok} {Q : Value → Shared → Prop} (ha : a.natAbs.log2 < 12900) (hn : NoMax s.heap) (h : Q (.str (toString a) s.toks) { s with toks := s.toks + 1 }) : wpAny (model prog w) A (pyReprObj (.int a t)) Q E s := by
  unfold pyReprObj
  have hv : [Value.int a t].any Value.onHeap = false := rfl
  simp only [cRoomFor, hv, Bool.false_eq_true, if_false, pure_bind]
  refine wpAny_bind (wpAny_specialOf (name := Str.ofString "__repr__") (typeIs_int s a t) F.slot_int_repr.lookup ?_)
  refine wpAny_bind (m := callSpecialIfBound? (.int a t) (Str.ofString "__repr__")) (wpAny_callSpecialIfBound?_slot (name := Str.ofString "__repr__") (typeIs_int s a t) F.slot_int_repr (call_givesAt F.slot_int_repr (typeIs_int s a t) F.entry_int_repr (F.args_int_repr_1 _) (gives_repr_big a t ha) hn ⟨big_fits ha, ?_⟩))
  exact wpAny_bind (wpAny_isInstance (T := "str") (b := true) rfl isSubtype_str_str (wpAny_pure h))
theorem ReprK.big {h₀ : Heap} {a : Int} (t : Tok) (ha : a.natAbs.log2 < 12900) (hn : NoMax h₀) (as : List Addr) (d : Nat) : ReprK prog w as h₀ d (.int a t) (toString a) := fun n hb A _ E s Q _ _ _ hk hQ => by
  have hn' : n ≤ sizeLine := by omega
  rw [pyReprUnder_leaf (v := .int a t) hn' (fun _ e => nomatch e)]
  unfold pyRepr
  exact wpAny_bind (reprObj_big ha (hn.keeps hk) (wpAny_pure (hQ s.heap _ fun _ _ e => e)))
end
/-! ### data without dicts, ints of up to 12900 bits -/
mutual
def bigOk : PyData → Bool
  | .none | .bool _ | .str _ => true
  | .int i => decide (i.natAbs.log2 < 12900)
  | .list xs | .tuple xs => bigOks xs
  | .dict _ => false
def bigOks : List PyData → Bool
  | [] => true
  | x :: xs => bigOk x && bigOks xs
end
section
variable {prog : Program} {w : World} {h₀ : Heap}
theorem ram_cons {n : Nat} {a : Addr} {d : PyData} {as bs : List Addr} {m : Nat} (r : Reads h₀ (.ref a) d as) (h1 : d.depth ≤ m) (h2 : n ≤ m) (hb : ReadAtMost h₀ n bs) : ReadAtMost h₀ m (a :: bs) := by
  intro b q
  cases q with
  | head => exact ⟨_, _, r, h1⟩
  | tail _ q =>
    obtain ⟨e, cs, r', l⟩ := hb b q
    exact ⟨e, cs, r', Nat.le_trans l h2⟩
/-- the text of v is told, whatever else happens -/
def Told (prog : Program) (w : World) (h₀ : Heap) (v : Value) (n : Nat) (t : Str) : Prop := ∃ bs, ReadAtMost h₀ n bs ∧ ReprK prog w bs h₀ n v t
def Tolds (prog : Program) (w : World) (h₀ : Heap) (vs : List Value) (n : Nat) (ts : List Str) : Prop := ∃ bs, ReadAtMost h₀ n bs ∧ ReprAllK prog w bs h₀ n vs ts
theorem Told.flat {v : Value} {n : Nat} {t : Str} (h : ReprK prog w [] h₀ n v t) : Told prog w h₀ v n t := ⟨[], nofun, h⟩
theorem Tolds.nil {n : Nat} : Tolds prog w h₀ [] n [] := ⟨[], nofun, .nil⟩
theorem Tolds.cons {v : Value} {vs : List Value} {n m : Nat} {t : Str} {ts : List Str} (h : Told prog w h₀ v n t) (r : Tolds prog w h₀ vs m ts) : Tolds prog w h₀ (v :: vs) (max n m) (t :: ts) := by
  obtain ⟨b, hb, k⟩ := h
  obtain ⟨c, hc, q⟩ := r
  refine ⟨b ++ c, fun p hp => ?_, .cons ((k.more fun p hp => List.mem_append.mpr (.inl hp)).level_le (Nat.le_max_left n m)) (q.more_le (fun p hp => List.mem_append.mpr (.inr hp)) (Nat.le_max_right n m))⟩
  rcases List.mem_append.mp hp with z | z
  · obtain ⟨e, cs, x, y⟩ := hb p z
    exact ⟨e, cs, x, Nat.le_trans y (Nat.le_max_left n m)⟩
  · obtain ⟨e, cs, x, y⟩ := hc p z
    exact ⟨e, cs, x, Nat.le_trans y (Nat.le_max_right n m)⟩
theorem told_tup {a : Addr} {d : PyData} {xs : List PyData} {as : List Addr} (hd : d = .tuple xs) (r : Reads h₀ (.ref a) d as) (hk : ∀ vs cs, ReadsAll h₀ vs xs cs → Tolds prog w h₀ vs (PyData.depthAll xs) (PyData.shownAll xs)) :
    Told prog w h₀ (.ref a) d.depth d.shown := by
  cases r with
  | tuple h1 h2 h3 h4 =>
    cases hd
    obtain ⟨c, hc, q⟩ := hk _ _ h4
    have dp : (PyData.tuple xs).depth = PyData.depthAll xs + 1 := by simp only [PyData.depth]
    rw [dp, show (PyData.tuple xs).shown = tupleText (PyData.shownAll xs) by simp only [PyData.shown]]
    exact ⟨a :: c, ram_cons (.tuple h1 h2 h3 h4) (Nat.le_of_eq dp) (Nat.le_succ _) hc, ReprK.tuple h1 h2 h3 (not_mem_of_deeper (.tuple h1 h2 h3 h4) (by rw [dp]; exact Nat.lt_succ_self _) hc) q⟩
  | _ => cases hd
theorem told_lst {a : Addr} {d : PyData} {xs : List PyData} {as : List Addr} (hd : d = .list xs) (r : Reads h₀ (.ref a) d as) (hk : ∀ vs cs, ReadsAll h₀ vs xs cs → Tolds prog w h₀ vs (PyData.depthAll xs) (PyData.shownAll xs)) :
    Told prog w h₀ (.ref a) d.depth d.shown := by
  cases r with
  | list h1 h2 h3 h4 =>
    cases hd
    obtain ⟨c, hc, q⟩ := hk _ _ h4
    have dp : (PyData.list xs).depth = PyData.depthAll xs + 1 := by simp only [PyData.depth]
    rw [dp, show (PyData.list xs).shown = listText (PyData.shownAll xs) by simp only [PyData.shown]]
    have na := not_mem_of_deeper (.list h1 h2 h3 h4) (by rw [dp]; exact Nat.lt_succ_self _) hc
    refine ⟨a :: c, ram_cons (.list h1 h2 h3 h4) (Nat.le_of_eq dp) (Nat.le_succ _) hc, ?_⟩
    rename_i o vs n cs
    obtain ⟨l⟩ := vs
    cases l with
    | nil =>
      cases (show ReadsAll h₀ [] xs _ from h4)
      rw [show listText (PyData.shownAll []) = ("[]" : Str) by simp only [PyData.shownAll, listText_nil]]
      exact ReprK.listEmpty h1 h2 h3
    | cons x l => exact ReprK.list h1 h2 h3 na (by simpa using q.length_eq) fun i y e => q.item i y (by simpa using e)
  | _ => cases hd
mutual
theorem told_big (hn : NoMax h₀) : ∀ (d : PyData) {v : Value} {as : List Addr}, Reads h₀ v d as → bigOk d = true → d.shown.length ≤ sizeLine → Told prog w h₀ v d.depth d.shown
  | .none, _, _, r, _, _ => by cases r; rw [show PyData.none.shown = ("None" : Str) by simp only [PyData.shown]]; exact .flat (.of_is .none _ _ _)
  | .bool b, _, _, r, _, _ => by cases r; rw [show (PyData.bool b).shown = ((if b then "True" else "False") : Str) by simp only [PyData.shown]]; exact .flat (.of_is (.bool b) _ _ _)
  | .int i, _, _, r, h, _ => by cases r; rw [show (PyData.int i).shown = toString i by simp only [PyData.shown]]; exact .flat (ReprK.big _ (by simpa [bigOk] using h) hn _ _)
  | .str x, _, _, r, _, z => by cases r; rw [show (PyData.str x).shown = reprText x by simp only [PyData.shown]] at z ⊢; exact .flat (.of_is (.str x _ z) _ _ _)
  | .tuple xs, v, as, r, h, z => by
    rw [show (PyData.tuple xs).shown = tupleText (PyData.shownAll xs) by simp only [PyData.shown]] at z
    have r' := r
    cases r'
    exact told_tup rfl r fun vs cs q => tolds_big hn xs q (by simpa [bigOk] using h) fun t m => Nat.le_trans (tupleText_mem_le m) z
  | .list xs, v, as, r, h, z => by
    rw [show (PyData.list xs).shown = listText (PyData.shownAll xs) by simp only [PyData.shown]] at z
    have r' := r
    cases r'
    exact told_lst rfl r fun vs cs q => tolds_big hn xs q (by simpa [bigOk] using h) fun t m => Nat.le_trans (listText_mem_le m) z
  | .dict _, _, _, _, h, _ => by simp [bigOk] at h
theorem tolds_big (hn : NoMax h₀) : ∀ (ds : List PyData) {vs : List Value} {as : List Addr}, ReadsAll h₀ vs ds as → bigOks ds = true → (∀ t ∈ PyData.shownAll ds, t.length ≤ sizeLine) → Tolds prog w h₀ vs (PyData.depthAll ds) (PyData.shownAll ds)
  | [], _, _, r, _, _ => by cases r; rw [show PyData.shownAll [] = [] by simp only [PyData.shownAll]]; exact .nil
  | d :: ds, _, _, r, h, z => by
    cases r with
    | cons r rs =>
      rw [show PyData.shownAll (d :: ds) = d.shown :: PyData.shownAll ds by simp only [PyData.shownAll]] at z ⊢
      rw [show PyData.depthAll (d :: ds) = max d.depth (PyData.depthAll ds) by simp only [PyData.depthAll]]
      have h' : bigOk d = true ∧ bigOks ds = true := by simpa [bigOks] using h
      exact .cons (told_big hn d r h'.1 (z _ (List.mem_cons_self ..))) (tolds_big hn ds rs h'.2 fun t m => z t (List.mem_cons_of_mem _ m))
end
end
end DL
set_option Elab.async false
set_option linter.all false
set_option maxRecDepth 100000
set_option maxHeartbeats 2000000
namespace DL
open PySem PySem.Spec L2
open PyProof.Rows hiding St
section
variable {prog : Program} {w : World} {h₀ : Heap} {A : Around} {E : Value → Shared → Prop} {s : Shared}
/-- repr of a list or a tuple whose ints are of any usual size -/
theorem repr_seq {a : Addr} {d : PyData} {as : List Addr} {Q : Value → Shared → Prop} (r : Reads s.heap (.ref a) d as) (hn : NoMax s.heap) (hb : bigOk d = true) (hz : d.shown.length ≤ sizeLine) (hg : A.guards = some []) (hu : A.units + (d.depth + 1) < cLine)
    (hQ : ∀ h' u tk, (∀ b o, s.heap.get? b = some o → h'.get? b = some o) → Q (.str d.shown u) { s with heap := h', toks := tk }) : wpAny (model prog w) A (call (.builtin "repr") [.ref a]) Q E s := by
  have hu1 : A.in1.units + d.depth < cLine := by
    show A.units + 1 + d.depth < cLine
    omega
  have r' := r
  cases d with
  | list xs =>
    cases r' with
    | list h1 h2 h3 h4 =>
      rename_i o vs n cs
      have zz : (PyData.list xs).shown = listText (PyData.shownAll xs) := by simp only [PyData.shown]
      have dd : (PyData.list xs).depth = PyData.depthAll xs + 1 := by simp only [PyData.depth]
      rw [zz] at hz hQ
      rw [dd] at hu1
      refine call_repr_slot (T := "list") (by omega) ⟨o, h1, h2⟩ F.slot_list_repr.toG ?_
      obtain ⟨bs, hbs, hk⟩ := tolds_big (prog := prog) (w := w) hn xs h4 (by simpa [bigOk] using hb) fun t m => Nat.le_trans (listText_mem_le m) hz
      obtain ⟨l⟩ := vs
      cases l with
      | nil =>
        cases (show ReadsAll s.heap [] xs _ from h4)
        rw [show listText (PyData.shownAll []) = ("[]" : Str) by simp only [PyData.shownAll, listText_nil]] at hQ
        exact call_list_repr_empty ⟨o, h1, h2⟩ h1 h3 ⟨_, _, rfl, hQ s.heap _ _ fun _ _ e => e⟩
      | cons x l =>
        have na := not_mem_of_deeper r (by rw [dd]; exact Nat.lt_succ_self _) hbs
        exact call_list_reprK h1 h2 h3 na (by simpa using hk.length_eq) (fun i y e => hk.item i y (by simpa using e)) hg (fun b _ => Clear.nil b) hu1 (fun _ _ e => e) (fun h' u tk k => ⟨_, _, rfl, hQ h' u tk k⟩) hz
  | tuple xs =>
    cases r' with
    | tuple h1 h2 h3 h4 =>
      rename_i o vs n
      have zz : (PyData.tuple xs).shown = tupleText (PyData.shownAll xs) := by simp only [PyData.shown]
      have dd : (PyData.tuple xs).depth = PyData.depthAll xs + 1 := by simp only [PyData.depth]
      rw [zz] at hz hQ
      rw [dd] at hu1
      refine call_repr_slot (T := "tuple") (by omega) ⟨_, h1, h2⟩ F.slot_tuple_repr ?_
      obtain ⟨bs, hbs, hk⟩ := tolds_big (prog := prog) (w := w) hn xs h4 (by simpa [bigOk] using hb) fun t m => Nat.le_trans (tupleText_mem_le m) hz
      have na := not_mem_of_deeper r (by rw [dd]; exact Nat.lt_succ_self _) hbs
      exact call_tuple_reprK h1 h2 h3 na hk hg (fun b _ => Clear.nil b) hu1 (fun _ _ e => e) (fun h' u tk k => ⟨_, _, rfl, hQ h' u tk k⟩) hz
  | dict kvs => simp [bigOk] at hb
  | _ => cases r'
end
/-- the module's own facts say that the limit was not set -/
def mxB (K : PySem.W.Frag) : Bool := decide (PySem.W.nsIn K cStatics "sys.int_max_str_digits" = some none)
theorem nomax_of {K : PySem.W.Frag} {h : Heap} (X : K.In h) (hl : h.NoLimit) (c : mxB K = true) : NoMax h := by
  obtain ⟨mc, hn, _⟩ := hl
  exact ⟨mc, hn, PySem.W.ns_none_of X hn (of_decide_eq_true c)⟩
section
variable {X : Cx} {F : FP} {e : Expr} {es : List Expr} {pos : Pos} {Tas : TDA} {pins : List (Addr × Obj)} {σ : L2.St} {H : Hp} {s : Shared}
theorem inv_nomax (I : Inv X pins σ H s) (c : mxB X.K = true) : NoMax s.heap := (nomax_of I.ok.mod.kin I.ok.mod.nolimit c).keeps I.bk
/-- as showOk, of tuples and lists, ints of up to 12900 bits -/
def showB (d : D) : Prop := plain d = true ∧ bigOk (toP d) = true ∧ (toP d).depth ≤ 64 ∧ ((toP d).shown).length ≤ sizeLine
def gReprB : GA := fun xs Q => match xs with
  | [.tup ds] => showB (.tup ds) ∧ Q (.str (toP (.tup ds)).shown)
  | [.lst ds] => showB (.lst ds) ∧ Q (.str (toP (.lst ds)).shown)
  | _ => False
def rReprB (K : PySem.W.Frag) : List V → Hp → VK → Prop := fun vs H Q => ∃ a d, vs = [.ref a] ∧ Dp K H (.ref a) d ∧ bigOk d = true ∧ d.depth ≤ 64 ∧ d.shown.length ≤ sizeLine ∧ Q (.str d.shown) H
theorem cr_reprB (c : mxB X.K = true) (hg : X.A.guards = some []) (hu : X.A.units + 80 < cLine) : CallR X (.builtin "repr") (rReprB X.K) := by
  intro pins s σ H vs us Q I r h
  obtain ⟨a, d, rfl, dp, h1, h3, h4, q⟩ := h
  obtain ⟨u, rfl, rv⟩ := vals1 r
  obtain ⟨as, rd⟩ := Dp.reads I d _ u dp rv
  cases rv
  exact repr_seq rd (inv_nomax I c) h1 h4 hg (by omega) fun h' u tk hk => ⟨.str _, H, I.kept (t' := tk) hk, ⟨_, rfl⟩, q⟩
theorem cd_reprB : CallD F (rReprB F.K) gReprB := ⟨by
  intro N H vs ds Qd Q n r h k
  unfold gReprB at h
  split at h
  · rename_i d
    obtain ⟨v, r, rfl, h1, h2⟩ := r
    cases h2
    obtain ⟨⟨p, s1, s2, s3⟩, q⟩ := h
    have h1' := h1
    obtain ⟨a, vs, rfl, _⟩ := h1'
    exact ⟨a, _, rfl, Rep.dp _ _ p h1, s1, s2, s3, k _ _ _ Ext.refl rep_str q⟩
  · rename_i d
    obtain ⟨v, r, rfl, h1, h2⟩ := r
    cases h2
    obtain ⟨⟨p, s1, s2, s3⟩, q⟩ := h
    have h1' := h1
    obtain ⟨a, vs, rfl, _⟩ := h1'
    exact ⟨a, _, rfl, Rep.dp _ _ p h1, s1, s2, s3, k _ _ _ Ext.refl rep_str q⟩
  · exact h.elim⟩
theorem d_reprB {p : Pos} (hK : F.K = X.K) (c : mxB X.K = true) (hgd : X.A.guards = some []) (hu : X.A.units + 80 < cLine) (hg : Gl X "repr") (hm : X.mg "repr" = none) (ha : PA X (e :: es) (tDA F Tas))
    (he : starEach (e :: es) X.env = (false, eval e X.env) :: starEach es X.env := by rfl) (hpl : (backTo pos (starEach es X.env)).any (·.1) = false := by rfl) : PE X (.Call (.Name "repr" p) (e :: es) [] pos) (tD F (dCB gReprB Tas)) := by
  have z := cd_reprB (F := F)
  rw [hK] at z
  exact d_callB z (cr_reprB c hgd hu) hg hm (by decide +kernel) ha (by decide) (by decide) he hpl
end
end DL
set_option Elab.async false
set_option linter.all false
set_option maxRecDepth 100000
set_option maxHeartbeats 2000000
/-! int of a text of up to 4300 signs -/
namespace DL
open PySem PySem.Spec L2 PySem.NumText
open PyProof.Rows hiding St
section
variable {M : Model} {A : Around} {E : Value → Shared → Prop} {s : Shared}
theorem max_read {Q : Nat → Shared → Prop} (hn : NoMax s.heap) (q : Q 4300 s) : wpAny M A Builtin.intMaxStrDigits Q E s := by
  obtain ⟨mc, hns, hk⟩ := hn
  unfold Builtin.intMaxStrDigits
  refine wpAny_bind (wpAny_nsGet hns ?_)
  rw [hk]
  exact wpAny_pure q
theorem from_text {v : Value} {text : List Nat} {n : Int} {Q : Value → Shared → Prop} (hn : NoMax s.heap) (long : ¬ (text.takeWhile (· != 0)).length ≤ 640)
    (reads : (int_private% "readNumeral") 4300 10 (text.takeWhile (· != 0)) = (int_private% "Numeral.value") n) (whole : ((text.takeWhile (· != 0)).length == text.length) = true) (h : Q (.int n s.toks) { s with toks := s.toks + 1 }) :
    wpAny M A ((int_private% "intFromText") v text 10) Q E s := by
  obtain ⟨hp, g, d, tk, os⟩ := s
  repeat (any_goals (first
    | assumption
    | (with_reducible refine wpAny_ite_false (decide_eq_false long) ?_)
    | (with_reducible refine wpAny_ite_true (decide_eq_true whole) ?_)
    | (with_reducible refine max_read hn ?_)
    | wp_step))
  all_goals (try rw [reads])
  all_goals (try dsimp only)
  repeat (any_goals (first
    | assumption
    | (with_reducible refine wpAny_ite_false (decide_eq_false long) ?_)
    | (with_reducible refine wpAny_ite_true (decide_eq_true whole) ?_)
    | wp_step))
end
structure Box (p : Prop) : Prop where
  it : p
set_option maxHeartbeats 4000000 in
theorem new_wp {x : PySem.Str} {u : Tok} {n : Int} (h1 : 640 < (numSeenOf x).length) (h2 : x.length ≤ sizeLine) (told : PySem.intText? x = some n) {M : Model} {A : Around} {E : Value → Shared → Prop} {s : Shared} {Q : Value → Shared → Prop}
    (hn : NoMax s.heap) (h : Q (.int n s.toks) { s with toks := s.toks + 1 }) : wpAny M A (Builtin.«int.__new__» ⟨[.type "int", .str x u], []⟩) (fun fin s' => ∃ v, fin = .done (.ret v) ∧ Q v s') E s := by
  have hk : Box (¬ (numSeenOf x).length ≤ 640 ∧ (int_private% "readNumeral") 4300 10 (numSeenOf x) = (int_private% "Numeral.value") n ∧ ((numSeenOf x).length == (numTextOf x).length) = true) := by
    rcases read4300 x h2 with ⟨m, q1, q2, q3⟩ | ⟨q1, _⟩
    · rw [told] at q1
      cases q1
      exact ⟨by omega, q3, q2⟩
    · rw [told] at q1
      cases q1
  clear h1 h2 told
  obtain ⟨hp, g, d, tk, os⟩ := s
  have w1 := F.conv_sub_int
  have w2 := F.madeHere_int
  have w3 := PySem.W.KIN.str_int
  have w4 := PySem.W.KIN.str_idx
  have w5 := PySem.W.KIN.str_trunc
  have w6 : typeOf (.str x u) = pure (.type "str") := rfl
  repeat (any_goals (first
    | assumption
    | ((with_reducible show wpAny _ _ ((int_private% "intFromText") _ _ _) _ _ _); refine from_text hn hk.it.1 hk.it.2.1 hk.it.2.2 ?_)
    | wp_step))
  all_goals first | exact ⟨_, rfl, h⟩ | skip
section
variable {prog : Program} {w : World} {A : Around} {E : Value → Shared → Prop} {s : Shared} {Q : Value → Shared → Prop}
theorem int_text43 {x : PySem.Str} {t : Tok} {n : Int} (h1 : 640 < (numSeenOf x).length) (h2 : x.length ≤ sizeLine) (told : PySem.intText? x = some n) (hn : NoMax s.heap) (h : Q (.int n s.toks) { s with toks := s.toks + 1 }) :
    wpAny (model prog w) A (call (.type "int") [.str x t]) Q E s := by
  refine call_int_1 (S := fun _ R s => NoMax s.heap ∧ R (.ok (.ret (.int n s.toks))) { s with toks := s.toks + 1 }) ?_ ⟨hn, PySem.typeIs_int _ _ _, h⟩
  intro prog w A R s hs
  exact wpAny_mono (new_wp h1 h2 told (Q := fun v s' => R (.ok (.ret v)) s') hs.1 hs.2) (fun fin s' ⟨v, e, q⟩ => by subst e; exact q) fun _ _ z => z
end
end DL
set_option Elab.async false
set_option linter.all false
set_option maxRecDepth 100000
set_option maxHeartbeats 2000000
namespace DL
open PySem PySem.Spec L2 PySem.NumText
open PyProof.Rows hiding St
theorem nine_seen (n : Nat) : (numSeenOf (nine (n + 1))).length = n + 1 := by
  have hall : ((nine (n + 1)).cps.all (· < 128)) = true := by
    rw [← Array.all_toList, nine_cps, List.all_eq_true]
    intro x hx
    rw [(List.mem_replicate.mp hx).2]
    rfl
  have e1 : numTextOf (nine (n + 1)) = List.replicate (n + 1) 57 := by
    unfold numTextOf
    rw [if_pos hall, nine_cps]
  unfold numSeenOf
  rw [e1, List.takeWhile_replicate]
  exact List.length_replicate
section
variable {X : Cx} {F : FP} {Ta Tb : TDE} {Tas : TDA} {e a b c : Expr} {es : List Expr} {pos : Pos} {st : Stmt}
theorem call_int_strB (m : mxB X.K = true) : CallR X (.type "int") (fun xs H Q => ∃ a n, xs = [.str a] ∧ PySem.intText? a = some n ∧ a.length ≤ 4300 ∧ (a.length ≤ 640 ∨ 640 < (numSeenOf a).length) ∧ Q (.int n) H) := by
  intro pins s σ H xs us Q I rs h
  obtain ⟨a, n, rfl, hn, hl, hc, h⟩ := h
  obtain ⟨u, rfl, t, rfl⟩ := vals1 rs
  rcases hc with hc | hc
  · exact PySem.W.KIN.call_text hn hc ⟨.int n, H, I.tok _, ⟨_, rfl⟩, h⟩
  · exact int_text43 hc (Nat.le_trans hl (by rw [sizeLine_eq]; omega)) hn (inv_nomax I m) ⟨.int n, H, I.tok _, ⟨_, rfl⟩, h⟩
def gNinesB : G1 := fun x Q => match x with
  | .int n => (2 ≤ n ∧ n ≤ 4300) ∧ Q (.int (10 ^ n.toNat - 1))
  | _ => False
theorem d_ninesB {k : Nat} {p p1 p2 : Pos} {n : Expr} (m : mxB X.K = true) (hg : Gl X "int") (hm : X.mg "int" = none) (hn : PE X n (tD F Ta)) (he : starEach [.BinOp (.Constant (.str "9") k p1) .Mult n p2] X.env = (false, eval (.BinOp (.Constant (.str "9") k p1) .Mult n p2) X.env) :: starEach [] X.env := by rfl)
    (hpl : (backTo pos (starEach [] X.env)).any (·.1) = false := by rfl) : PE X (.Call (.Name "int" p) [.BinOp (.Constant (.str "9") k p1) .Mult n p2] [] pos) (tD F (dUn gNinesB Ta)) :=
  PE.imp (pe_callTy (call_int_strB m) hg hm (by decide +kernel) (pa_cons (pe_op op_nine pe_str hn) pa_nil he) (by decide) (by decide) he hpl) (by
  rintro σ H Q ⟨N, env, Qd, f, hT, k⟩
  refine ⟨N, env, _, f, hT, fun v H1 d e1 r q => ?_⟩
  cases d <;> first | exact q.elim | skip
  rename_i n
  obtain ⟨⟨h1, h2⟩, q⟩ := q
  refine ⟨n, rfl, r, ⟨h1, by omega⟩, ?_⟩
  obtain ⟨m, hm⟩ : ∃ m, n.toNat = m + 1 := ⟨n.toNat - 1, by omega⟩
  refine ⟨nine n.toNat, _, rfl, ?_, by rw [nine_len]; omega, ?_, k _ _ _ e1 rep_int q⟩
  · rw [hm]
    exact nine_int m (by omega)
  · rw [nine_len, hm, nine_seen]
    omega)
end
end DL
set_option Elab.async false
set_option linter.all false
set_option maxRecDepth 100000
/-! facts of the program's own exception classes -/
namespace DL
open PySem PySem.Spec L2
open PyProof.Rows hiding St
abbrev excTail : List Value := [.type "Exception", .type "BaseException", .type "object"]
def clsB (K : PySem.W.Frag) (n : Str) : Bool := match PySem.W.nsIn K mainGlobals n with
  | some (some (.ref a)) => PySem.W.excIn K a excTail "Exception.__new__" && PySem.W.keepIn K (.ref a) && decide (PySem.W.subIn K (.ref a) (.type "BaseException") = some true) && decide (PySem.W.typeIn K (.ref a) = some (.type "type"))
  | _ => false
def exmB (K : PySem.W.Frag) (n m : Str) (b : Bool) : Bool := decide (PySem.W.exmOne K (clsAt K n) (clsAt K m) = some b)
structure ClsF (K : PySem.W.Frag) (mg : Str → Option Value) (n : Str) (a : Addr) : Prop where
  at_ : clsAt K n = .ref a
  g : mg n = some (.ref a)
  q : PySem.W.excIn K a excTail "Exception.__new__" = true
  kp : PySem.W.keepIn K (.ref a) = true
  sub : PySem.W.subIn K (.ref a) (.type "BaseException") = some true
  ty : PySem.W.typeIn K (.ref a) = some (.type "type")
theorem cls_ok {K : PySem.W.Frag} {h : Heap} {mg : Str → Option Value} (X : K.In h) (G : h.Ns mainGlobals mg) {n : Str} (c : clsB K n = true) : ∃ a, ClsF K mg n a := by
  unfold clsB at c
  split at c
  · rename_i a e
    simp only [Bool.and_eq_true, decide_eq_true_eq] at c
    refine ⟨a, ?_, PySem.W.mg_of X G e, c.1.1.1, c.1.1.2, c.1.2, c.2⟩
    unfold clsAt
    rw [e]
  · cases c
end DL
set_option maxRecDepth 100000
namespace DL
open PySem PySem.Spec L2
/-! ### plain facts for readings -/
theorem ifd {p : Prop} [Decidable p] {A B : Prop} (h1 : p → A) (h2 : ¬ p → B) : if decide p = true then A else B := by
  by_cases h : p
  · rw [decide_eq_true h, if_pos rfl]; exact h1 h
  · rw [decide_eq_false h, if_neg Bool.false_ne_true]; exact h2 h
theorem ifdn {p : Prop} [Decidable p] {A B : Prop} (h1 : ¬ p → A) (h2 : p → B) : if (!decide p) = true then A else B := by
  by_cases h : p
  · rw [decide_eq_true h]; exact h2 h
  · rw [decide_eq_false h]; exact h1 h
theorem sz {n : Nat} (h : n ≤ 1000 := by decide) : n ≤ sizeLine := Nat.le_trans h (by rw [sizeLine_eq]; decide)
/-- an int of at most n bits -/
def Bd (n : Nat) (i : Int) : Prop := i.natAbs < 2 ^ n
theorem Bd.mono {n m : Nat} {i : Int} (h : Bd n i) (l : n ≤ m) : Bd m i := Nat.lt_of_lt_of_le h (Nat.pow_le_pow_right (by decide) l)
theorem Bd.mul {n m : Nat} {i j : Int} (h : Bd n i) (g : Bd m j) : Bd (n + m) (i * j) := wide_lt h g
theorem Bd.neg {n : Nat} {i : Int} (h : Bd n i) : Bd n (-i) := by unfold Bd; rw [Int.natAbs_neg]; exact h
theorem Bd.add {n : Nat} {i j : Int} (h : Bd n i) (g : Bd n j) : Bd (n + 1) (i + j) := by
  unfold Bd at *
  have : (i + j).natAbs ≤ i.natAbs + j.natAbs := Int.natAbs_add_le i j
  rw [Nat.pow_succ]
  omega
theorem Bd.sub {n : Nat} {i j : Int} (h : Bd n i) (g : Bd n j) : Bd (n + 1) (i - j) := by
  rw [Int.sub_eq_add_neg]
  exact h.add g.neg
theorem Bd.cmul {n m : Nat} {i j : Int} (h : Bd n i) (g : Bd m j) (l : n + m ≤ 900000 := by decide) : CMulW i j :=
  wide_mul (h.mono (Nat.le_succ n)) (g.mono (Nat.le_succ m)) (Nat.succ_pos _) (Nat.succ_pos _) (by omega)
theorem Bd.lit {n : Nat} {i : Int} (h : i.natAbs < 2 ^ n := by decide) : Bd n i := h
theorem Bd.of_le {n : Nat} {i j : Int} (h : Bd n j) (l : i.natAbs ≤ j.natAbs) : Bd n i := Nat.lt_of_le_of_lt l h
theorem Bd.cdiv {n : Nat} {i j : Int} (h : Bd n j) (p : 0 < j) (l : n ≤ 8000 := by decide) : CDivW i j :=
  wide_div p (h.mono (Nat.le_succ n)) (Nat.succ_pos _) (by omega)
theorem bd_small {i : Int} {n m : Nat} (h0 : 0 ≤ i) (h : i < n) (l : n ≤ 2 ^ m := by decide) : Bd m i := by
  unfold Bd
  omega
end DL
set_option Elab.async false
set_option linter.all false
set_option maxRecDepth 100000
set_option maxHeartbeats 2000000
/-! own exception classes whose __init__ stores its one parameter: facts, raise X(e) -/
namespace DL
open PySem PySem.Spec L2
open PySem.Builtin PySem.Builtin.ObjectAttr
open PyProof.Rows hiding St
def exc3 : List Value := [.type "Exception", .type "BaseException", .type "object"]
/-- the class n at C, its __init__ at fI; par: the parameter and the field -/
structure ExF (K : PySem.W.Frag) (mg : Str → Option Value) (n par : Str) (C fI : Addr) : Prop where
  at_ : clsAt K n = .ref C
  g : mg n = some (.ref C)
  q : PySem.W.excInitIn K C exc3 "Exception.__new__" = true
  ov : PySem.W.excOver K C exc3 = true
  sa : PySem.W.findIn K (.ref C) "__setattr__" = some (some (.builtin "object.__setattr__"))
  xf : XfC K C
  tk : PySem.W.takerIn K C par = some none
  no : PySem.W.findIn K (.ref C) par = some none
  iC : PySem.W.findIn K (.ref C) "__init__" = some (some (.ref fI))
  tI : PySem.W.typeIn K (.ref fI) = some (.type "function")
  kC : PySem.W.keepIn K (.ref C) = true
  tyC : PySem.W.typeIn K (.ref C) = some (.type "type")
def exfB (K : PySem.W.Frag) (n par : Str) : Bool := match PySem.W.nsIn K mainGlobals n with
  | some (some (.ref C)) => PySem.W.excInitIn K C exc3 "Exception.__new__" && PySem.W.excOver K C exc3 && decide (PySem.W.findIn K (.ref C) "__setattr__" = some (some (.builtin "object.__setattr__"))) && xfB K C && decide (PySem.W.takerIn K C par = some none) &&
    decide (PySem.W.findIn K (.ref C) par = some none) && PySem.W.keepIn K (.ref C) && decide (PySem.W.typeIn K (.ref C) = some (.type "type")) && (match PySem.W.findIn K (.ref C) "__init__" with
    | some (some (.ref f)) => decide (PySem.W.typeIn K (.ref f) = some (.type "function")) && decide (f = He.fAd K (n, some "__init__"))
    | _ => false)
  | _ => false
theorem exf_ok {K : PySem.W.Frag} {h : Heap} {mg : Str → Option Value} (X : K.In h) (G : h.Ns mainGlobals mg) {n par : Str} (c : exfB K n par = true) : ∃ C, ExF K mg n par C (He.fAd K (n, some "__init__")) := by
  unfold exfB at c
  split at c
  · rename_i C e
    simp only [Bool.and_eq_true, decide_eq_true_eq] at c
    obtain ⟨⟨⟨⟨⟨⟨⟨⟨c1, c2⟩, c3⟩, c4⟩, c5⟩, c6⟩, c7⟩, c8⟩, c9⟩ := c
    split at c9
    · rename_i f ef
      simp only [Bool.and_eq_true, decide_eq_true_eq] at c9
      obtain ⟨d1, d2⟩ := c9
      subst d2
      exact ⟨C, by unfold clsAt; rw [e], PySem.W.mg_of X G e, c1, c2, c3, xfB_ok c4, c5, c6, ef, d1, c7, c8⟩
    · cases c9
  · cases c
theorem sz1 (v : Value) : [v].length ≤ sizeLine := by
  rw [sizeLine_eq]
  exact (by decide : 1 ≤ 16777216)
/-- the fresh exception behind its __init__ -/
structure XiEnd (h h' : Heap) (x C dx t1 : Addr) (par : Str) (v : Value) : Prop where
  keep : ∀ b o, b ≠ x → h.get? b = some o → h'.get? b = some o
  obj : h'.get? x = some { cls := .ref C, dict := some dx, data := .fields #[.ref t1, .none, .none, .none, .bool false, .none] }
  dbig : h.objs.size ≤ dx
  dne : dx ≠ x
  ns : h'.Ns1 dx (fun y => if y = par then some v else none)
structure XiMade (h h' : Heap) (e C d : Addr) (par : Str) (v : Value) : Prop where
  keep : ∀ b o, h.get? b = some o → h'.get? b = some o
  new : h.objs.size ≤ e
  obj : ∃ oe vs, h'.get? e = some oe ∧ oe.cls = .ref C ∧ oe.dict = some d ∧ oe.data = .fields vs ∧ vs[1]? = some .none
  dbig : h.objs.size ≤ d
  dne : d ≠ e
  ns : h'.Ns1 d (fun y => if y = par then some v else none)
/-- the text of such an __init__ -/
structure InitTx (par : Str) (body : List Stmt) (scope : Scope) : Prop where
  body_ : ∃ q1 q2 q3 q4, body = [.Assign [.Attribute (.Name "self" q1) par q2] (.Name par q3) q4]
  kind : scope.kind = .function
  co : scope.isCoroutine = false
  gen : scope.isGenerator = false
  l1 : scope.names.lookup ("self" : Str) = some .local
  l2 : scope.names.lookup par = some .local
  ne : par ≠ "self"
  nd : (par == ("__debug__" : Str)) = false
  nc : (par == ("__classdict__" : Str)) = false
section
variable {prog : Program} {w : World} {A : Around} {E : Value → Shared → Prop} {R : Result → Shared → Prop} {s : Shared} {K : PySem.W.Frag} {mg : Str → Option Value} {C fI : Addr} {n par : Str}
theorem ld_loc {M : Model} {s : Shared} {name : Str} {scope : Scope} {L a : Addr} {cd : Value} {m : Str → Option Value} {x : Str} {pos : Pos} {v : Value} {Q : Value → Shared → Prop} {A : Around} {E : Value → Shared → Prop} (hn : s.heap.Ns L m) (hv : m x = some v) (h : Q v s)
    (hk : scope.kind = .function) (hl : scope.names.lookup x = some .local) (hd : (x == ("__debug__" : Str)) = false) : wpAny M A (eval (.Name x pos) (envOfC name scope L a cd)) Q E s :=
  wpAny_Name (wpAny_loadName_local hk hl hn hv h) hd
theorem xi_store {hp : Heap} {g : Array GenState} {d : Drawn} {t : Nat} {os : OsState} {name : Str} {tk : Tok} {v : Value} {x : Addr} {fv : Array Value} (T : ExF K mg n name C fI) (X : K.In hp) (hx : hp.get? x = some { cls := .ref C, data := .fields fv })
    (hq : ∀ h' tk' dx, (∀ b o, b ≠ x → hp.get? b = some o → h'.get? b = some o) → hp.objs.size ≤ dx → dx ≠ x → h'.get? x = some { cls := .ref C, dict := some dx, data := .fields fv } →
      h'.Ns1 dx (fun y => if y = name then some v else none) → R (.ok (.ret .none)) ⟨h', g, d, tk', os⟩) :
    codeAny (model prog w) A (.call (.builtin "object.__setattr__") ⟨[.ref x, .str name tk, v], []⟩) R ⟨hp, g, d, t, os⟩ := by
  have lt : x < hp.objs.size := Heap.lt_size hx
  have hxs : x ≠ hp.objs.size := Nat.ne_of_lt lt
  obtain ⟨cd, hcd, hdd⟩ := PySem.W.any_some T.xf.hdC
  have hc : PySem.W.Looks (model prog w) hp (classData C) cd := PySem.W.looks_clsIn X hcd
  refine PySem.W.osa_openX (od := none) (s := ⟨hp, g, d, t, os⟩) PySem.F.store_Exception X ⟨hx, rfl, rfl, trivial⟩ T.ov T.tk fun b => ?_
  obtain ⟨nm, bs, mro, ns, qn, hd, sn, sb, ab, col, del⟩ := cd
  dsimp only at hdd
  subst hdd
  show wpAny _ _ (storeInOwnDict (.ref x) (.ref C) (.str name tk) name v b) _ _ _
  cases b
  all_goals unfold storeInOwnDict ownDictForStores
  all_goals repeat (first | with_reducible refine PySem.HandSPX.store_in_new ?_ ?_ | with_reducible refine wpAny_loadPart_at hx ?_ | with_reducible refine hc.at ?_ | wp_step)
  all_goals first
    | (refine ⟨_, #[], _, (Heap.get?_update_ne _ _ _ _ hxs.symm).trans (Heap.get?_push_at rfl rfl), rfl, fun e he => ?_, fun _ => rfl⟩
       exact absurd he (by simp))
    | (intro h' tk' hn' hs
       have hx₁ : (hp.push { cls := .type "dict", data := .dict #[] }).get? x = some { cls := .ref C, data := .fields fv } := Heap.get?_push_of_some _ hx
       refine hq h' tk' hp.objs.size (fun b o hb ho => ?_) (Nat.le_refl _) hxs.symm ?_ hn'
       · have e1 := Heap.get?_push_of_some { cls := .type "dict", data := .dict #[] } ho
         exact (hs.2 b (Nat.ne_of_lt (Heap.lt_size ho))).trans ((Heap.get?_update_ne _ _ _ _ hb).trans e1)
       · exact (hs.2 x hxs).trans (Heap.get?_update_self _ hx₁ rfl))
/-- __init__ on a fresh exception -/
theorem xi_init {qual : Str} {params : Arguments} {body : List Stmt} {scope : Scope} {fd : FuncData} (T : ExF K mg n par C fI) (F : FunD K "__init__" qual params body scope [] [] fI fd) (B : Binds K fd ["self", par] []) (I : InitTx par body scope) {x t0 : Addr} {v : Value}
    (X : K.In s.heap) (hlim : s.heap.NoLimit) (hx : s.heap.get? x = some (PySem.HandSPX.excO C t0)) (hroom : A.depth < recursionLimit)
    (hq : ∀ h' tk dx, XiEnd s.heap h' x C dx t0 par v → R (.ok (.ret .none)) { s with heap := h', toks := tk }) : codeAny (model prog w) A (.call (.ref fI) ⟨[.ref x, v], []⟩) R s := by
  have bnd := B s [.ref x, v] X rfl
  obtain ⟨oc, od, dV, kV, doc, pm, an, cdv, ct, osl, rfl, lk, hcd, _, _⟩ := F.ex
  obtain ⟨q1, q2, q3, q4, rfl⟩ := I.body_
  have kd : ∀ y : Str, (envOfC qual scope s.heap.objs.size fI cdv).kindOf y = scope.names.lookup y := fun _ => rfl
  refine Att.call_fn (binds := [("self", .ref x), (par, v)]) X hlim lk hcd hroom bnd (by simp [I.l1, I.l2]) (fun s₁ IC => ?_) I.co I.gen I.kind
  obtain ⟨h₁, tk₁, rfl⟩ := IC.toInCall.same
  have k : ∀ b o, s.heap.get? b = some o → h₁.get? b = some o := IC.toInCall.keep
  have hn := IC.toInCall.ns
  have v1 : bindL (envOfC qual scope s.heap.objs.size fI cdv).kindOf [(("self" : Str), Value.ref x), (par, v)] (fun _ => none) "self" = some (.ref x) := by
    simp [bindL, kd, I.l1, I.l2, I.ne.symm, I.ne]
  have v2 : bindL (envOfC qual scope s.heap.objs.size fI cdv).kindOf [(("self" : Str), Value.ref x), (par, v)] (fun _ => none) par = some v := by
    simp [bindL, kd, I.l1, I.l2, I.ne.symm, I.ne]
  have X₁ := X.keeps k
  have hx₁ := k _ _ hx
  have z : s.heap.objs.size < h₁.objs.size := hn.lt
  refine wpAny_execs_cons (plainObj_wpAny_Assign_Attribute ?_ (by rfl))
  refine ld_loc hn v2 (ld_loc hn v1 ?_ I.kind I.l1 (by decide)) I.kind I.l2 I.nd
  refine PySem.W.set_plain X₁ (od := none) ⟨hx₁, rfl, rfl, trivial⟩ T.sa ?_
  refine xi_store T X₁ hx₁ fun h₃ tk₃ dx k₃ dn dne hx₃ hn₃ => ?_
  exact wpAny_execs_nil (hq h₃ tk₃ dx ⟨fun b o hb e => k₃ b o hb (k b o e), hx₃, Nat.le_of_lt (Nat.lt_of_lt_of_le z dn), dne, hn₃⟩)
theorem xi_made {qual : Str} {params : Arguments} {body : List Stmt} {scope : Scope} {fd : FuncData} (T : ExF K mg n par C fI) (F : FunD K "__init__" qual params body scope [] [] fI fd) (B : Binds K fd ["self", par] []) (I : InitTx par body scope) {v : Value}
    (X : K.In s.heap) (hlim : s.heap.NoLimit) (hroom : A.depth + 1 < recursionLimit) (hq : ∀ h' tk e d, XiMade s.heap h' e C d par v → R (.ok (.ret (.ref e))) { s with heap := h', toks := tk }) :
    codeAny (model prog w) A (.call (.ref C) ⟨[v], []⟩) R s := by
  obtain ⟨nm, N, q, bs, bm, hdct, sn, sub, ab, col, dd, k0, k1, k2, k3, k5, hC, hT⟩ := PySem.W.excInit_of X T.q
  obtain ⟨hp, g, dr, tk, os⟩ := s
  have k : ∀ b o, hp.get? b = some o → ((hp.push (PySem.W.kdv_tup [v])).push (PySem.HandSPX.excO C hp.objs.size)).get? b = some o := fun b o e => Heap.get?_push_of_some _ (Heap.get?_push_of_some _ e)
  have at1 : ((hp.push (PySem.W.kdv_tup [v])).push (PySem.HandSPX.excO C hp.objs.size)).get? (hp.objs.size + 1) = some (PySem.HandSPX.excO C hp.objs.size) := by heap_get
  refine PySem.HandSPX.call_own PySem.F.excBase_Exception hT hC (PySem.W.looks_findIn X T.iC) (fun self => PySem.W.bind_fn X self T.tI) (sz1 v) ?_
  refine xi_init (s := ⟨(hp.push (PySem.W.kdv_tup [v])).push (PySem.HandSPX.excO C hp.objs.size), g, dr, tk, os⟩) T F B I (X.keeps k) (hlim.keeps k) at1 ?_ fun h' tk' dx ⟨k', hx, dn, dne, hns⟩ => ?_
  · show A.depth + 1 < recursionLimit
    exact hroom
  · have old : ∀ b o, hp.get? b = some o → h'.get? b = some o := fun b o e => k' b o (Nat.ne_of_lt (Nat.lt_succ_of_lt (Heap.lt_size e))) (k b o e)
    have z : hp.objs.size + 1 + 1 ≤ dx := by
      have y := dn
      rw [Heap.size_push, Heap.size_push] at y
      exact y
    exact ⟨rfl, hq h' tk' (hp.objs.size + 1) dx ⟨old, Nat.le_succ _, ⟨_, _, hx, rfl, rfl, rfl, rfl⟩, Nat.le_trans (Nat.le_trans (Nat.le_succ _) (Nat.le_succ _)) z, dne, hns⟩⟩
end
theorem relO_par {par : Str} {v : V} {v' : Value} (r : RelV v v') (f : Str) : RelO (List.lookup f [(par, v)]) (if f = par then some v' else none) := by
  by_cases e : f = par
  · subst e
    rw [if_pos rfl, List.lookup_cons, beq_self_eq_true]
    exact r
  · have b : (f == par) = false := by simpa using e
    rw [if_neg e, List.lookup_cons, b]
    trivial
section
variable {X : Cx} {C fI : Addr} {n par : Str} {F : FP} {W : WX} {Ta : TDE}
/-- X(e) -/
def tMk1 (C : Addr) (par : Str) (ta : TA) : L2.St → Hp → XK → Prop := fun σ H Q => ta σ H fun vs H1 => ∃ v, vs = [v] ∧ ∀ d, H1 d = none → Q (.ref C) (some d) (upd H1 d (.xd [(par, v)]))
theorem pmk_x1 {a : Expr} {ta : TA} {p pos : Pos} {k : Nat} {qual : Str} {params : Arguments} {body : List Stmt} {scope : Scope} {fd : FuncData} (T : ExF X.K X.mg n par C fI) (Fd : FunD X.K "__init__" qual params body scope [] [] fI fd) (B : Binds X.K fd ["self", par] []) (I0 : InitTx par body scope)
    (hr : Room k X.A) (ha : PA X [a] ta) (hg : Gl X n) (hdb : (n == ("__debug__" : Str)) = false := by decide) (he : starEach (a :: []) X.env = (false, eval a X.env) :: starEach [] X.env := by rfl) (hpl : (backTo pos (starEach [] X.env)).any (·.1) = false := by rfl) :
    PMk X (.Call (.Name n p) [a] [] pos) (tMk1 C par ta) := by
  intro pins s σ H Q I h
  refine wpAny_Call_Name_kw (ld_glob I hg T.g (PySem.W.callWith_K (h₀ := X.base) I.ok.mod.kin T.kC (thn (ha.run pos pins s σ H _ I h) fun us s1 hh => ?_) he hpl) hdb)
  obtain ⟨vs, H1, I1, r1, v, rfl, q1⟩ := hh
  refine ⟨I1.kIn, ?_⟩
  obtain ⟨v', rfl, rv⟩ := vals1 r1
  show wpAny _ _ (call (.ref C) [v']) _ _ _
  have hlim := I1.nolimit
  obtain ⟨hp, g, dr, tk, os⟩ := s1
  refine wpAny_call (xi_made T Fd B I0 I1.kIn hlim (by have := hr.dp; omega) fun h' tk' e d M => ?_)
  show MkP X pins σ Q (.ref e) ⟨h', g, dr, tk', os⟩
  obtain ⟨oe, fv, hoe, hc, hd, hdat, h1⟩ := M.obj
  have hns := M.ns
  obtain ⟨G', g1, g2⟩ := restrict h' fun b => decide (b ≠ e)
  have gk : ∀ b, b ≠ e → G'.get? b = h'.get? b := fun b hb => g1 b (decide_eq_true hb)
  have ge : G'.get? e = none := g2 e (by simp)
  have old : ∀ b o, hp.get? b = some o → G'.get? b = some o := fun b o q => (gk b (Nat.ne_of_lt (Nat.lt_of_lt_of_le (Heap.lt_size q) M.new))).trans (M.keep b o q)
  have ob : ObjOk X.prog X.w (upd H1 d (.xd [(par, v)])) G' d (.xd [(par, v)]) := ⟨_, hns.at (fun o q => (gk d M.dne).trans q), fun f => relO_par rv f⟩
  have J : Inv X pins σ (upd H1 d (.xd [(par, v)])) ⟨G', g, dr, tk', os⟩ := I1.laid (t' := tk') old M.dbig ob
  refine ⟨e, oe, fv, ⟨G', g, dr, tk', os⟩, _, .ref C, some d, rfl, J, fun b o q => ?_, ge, hoe, ⟨hc, hd⟩, hdat, h1, ?_, rfl, I1.bare, raises_own T.xf.exC T.tyC, q1 d (I1.hok.fresh M.dbig)⟩
  · by_cases hb : b = e
    · have q' : G'.get? b = some o := q
      rw [hb, ge] at q'
      cases q'
    · exact (gk b hb).symm.trans q
  · rw [upd_ne (Ne.symm M.dne)]
    exact I1.hok.fresh M.new
def dRaise1 (n par : Str) (Ta : TDE) : TDS := fun ξ _ env => Ta ξ env fun d => ξ ⟨n, [(par, d)]⟩ env
theorem ds_raise1 {a : Expr} {p pos pos2 : Pos} {k : Nat} {qual : Str} {params : Arguments} {body : List Stmt} {scope : Scope} {fd : FuncData} (hc : X.calm = true) (tk : Takes X W) (wo : WOk F W) (hK : F.K = X.K) (T : ExF X.K X.mg n par C fI) (Fd : FunD X.K "__init__" qual params body scope [] [] fI fd)
    (B : Binds X.K fd ["self", par] []) (I0 : InitTx par body scope) (hr : Room k X.A) (ha : PE X a (tD F Ta)) (hg : Gl X n) (hdb : (n == ("__debug__" : Str)) = false := by decide) (he : starEach (a :: []) X.env = (false, eval a X.env) :: starEach [] X.env := by rfl) (hpl : (backTo pos (starEach [] X.env)).any (·.1) = false := by rfl) :
    PS X (.Raise (some (.Call (.Name n p) [a] [] pos)) none pos2) (sD F (dRaise1 n par Ta)) :=
  PS.imp (ps_raise hc tk (pmk_x1 T Fd B I0 hr (pa_cons ha pa_nil he) hg hdb he hpl)) (by
  rintro De σ H ⟨N, env, Dd, f, hT, ok⟩
  refine ⟨N, env, _, f, hT, fun v H1 d e1 r q => ⟨v, rfl, fun dx hdx => ?_⟩⟩
  have f1 := f.ext' e1
  have f2 := f1.ext' (f1.n.lay (o := .xd [(par, v)]) hdx)
  refine wo N σ _ env ⟨n, [(par, d)]⟩ _ (some dx) f2 ⟨by rw [hK]; exact T.at_.symm, .inr ⟨dx, [v], rfl, f1.n.fresh hdx, upd_same, v, [], rfl, ?_, rfl⟩⟩ q
  exact r.ext (f1.n.lay hdx) f1.n.z)
end
end DL
set_option Elab.async false
set_option linter.all false
set_option maxRecDepth 100000
set_option maxHeartbeats 2000000
/-! try with any number of clauses, with and without a name -/
namespace DL
open PySem PySem.Spec L2
open PyProof.Rows hiding St
abbrev HTs := Addr → Value → Option Addr → TS
def atE : Option Nat → Ends → Ends
  | none, D => D
  | some i, D => { nx := fun σ H => D.nx (σ.set i none) H, rt := D.rt, bk := fun σ H => D.bk (σ.set i none) H, ct := fun σ H => D.ct (σ.set i none) H }
def putE : Option Nat → Addr → L2.St → L2.St
  | none, _, σ => σ
  | some i, a, σ => σ.set i (some (.ref a))
/-- the clauses' wish, one behind the other -/
def wNs (K : PySem.W.Frag) (Wout : WX) (D : Ends) : List (Value × Option Nat × HTs) → WX
  | [] => Wout
  | (c, o, ts) :: r => fun cls d σ H => ∃ b, PySem.W.exmOne K cls c = some b ∧ (b = true → ∀ a, H a = none → ts a cls d (atE o D) (putE o a σ) H) ∧ (b = false → wNs K Wout D r cls d σ H)
abbrev SuiteOk (X : Cx) (sts : List Stmt) (ts : HTs) : Prop := ∀ (a : Addr) (oe : Obj) (cls : Value) (d : Option Addr) (pn : List (Addr × Obj)), Zc cls d oe → (∃ vs, oe.data = .fields vs) → PSs (X.suite a ((a, oe) :: pn)) sts (ts a cls d)
inductive HdsN (X : Cx) : List ExceptHandler → List (Value × Option Nat × HTs) → Prop
  | nil : HdsN X [] []
  | one {x : Str} {c : Value} {ts : HTs} {b₀ : Stmt} {suite : List Stmt} {np pos' : Pos} {hds : List ExceptHandler} {l : List (Value × Option Nat × HTs)} (hc : Names X x c) (hsu : SuiteOk X (b₀ :: suite) ts) (r : HdsN X hds l) :
      HdsN X (.ExceptHandler (some (.Name x np)) none (b₀ :: suite) pos' :: hds) ((c, none, ts) :: l)
  | named {x n : Str} {i : Nat} {c : Value} {ts : HTs} {b₀ : Stmt} {suite : List Stmt} {np pos' : Pos} {hds : List ExceptHandler} {l : List (Value × Option Nat × HTs)} (hi : X.N[i]? = some n) (hln : X.env.kindOf n = some .local) (hc : Names X x c) (hsu : SuiteOk X (b₀ :: suite) ts) (r : HdsN X hds l) :
      HdsN X (.ExceptHandler (some (.Name x np)) (some n) (b₀ :: suite) pos' :: hds) ((c, some i, ts) :: l)
section
variable {X : Cx} {body : List Stmt} {h₀ : ExceptHandler} {hds : List ExceptHandler} {l : List (Value × Option Nat × HTs)} {pos : Pos} {tb : WX → TS} {Wout : WX}
theorem not_frame {B h : Heap} {fr : List Env} {a : Addr} {o : Obj} {vs : Array Value} (ff : h.FunFrames B fr) (e : h.get? a = some o) (dd : o.data = .fields vs) : a ∉ frs fr := fun hm => by
  obtain ⟨_, o', e', hnf⟩ := ff.mem hm
  rw [e] at e'
  cases e'
  exact hnf _ dd
theorem ps_try_nm (hs : X.stack = X.env :: X.outer) (hf : X.env.frame = some X.env.locals) (hN : X.N.Nodup) (tk : Takes X Wout)
    (hb : ∀ (W : WX) (pn : List (Addr × Obj)) (xe : Value → Shared → Prop), Takes (X.tr pn xe) W → PassesOwn (model X.prog X.w) X.A X.env xe → PSs (X.tr pn xe) body (tb W))
    (hh : HdsN X (h₀ :: hds) l) : PS X (.Try body (h₀ :: hds) [] [] pos) (fun D σ H => tb (wNs X.K Wout D l) D σ H) := by
  refine ⟨fun pins s σ H D I h => ?_⟩
  have ok := I.ok
  have hfr : X.A.frames = some (X.env :: X.outer) := by rw [ok.frames, hs]
  have body_ := hb (wNs X.K Wout D l) (X.pn ++ pins) (fun e s₁ => wpAny (model X.prog X.w) X.A (noteFrame e X.env) (fun _ s₂ => wpAny (model X.prog X.w) X.A (setFlight e none) (fun _ s₃ =>
    wpAny (model X.prog X.w) X.A (handleBy e X.env (h₀ :: hds)) (SP X pins D) X.xe s₃) X.xe s₂) X.xe s₁)
  refine wpAny_Try_except (wpAny_mono ((body_ (fun u s' xx => ?_) PassesOwn.looking).run [] s σ H D (I.toTry _) h) (fun f s1 hsp => ?_) (fun e s1 he => he))
  · obtain ⟨a, B, sI, pins', σ', H', cls, d, rfl, J', nb, up, sky, na, os, ag, w⟩ := xx
    have J : Inv X pins σ' H' sI := J'.ofTry ok
    rw [show (X.tr (X.pn ++ pins) _).stack = X.env :: X.outer from hs] at sky
    show wpAny (model X.prog X.w) X.A (noteFrame (.ref a) X.env) _ _ _
    refine Sky.land Zc.steady hfr hf sky fun h3 fl3 up3 => ?_
    have J3 : Inv X pins σ' H' { s' with heap := h3 } := J.landed nb fl3.1 (up.trans up3) os ag
    have zc : ∀ o, Zc cls d o → o.cls = cls := fun o z => z.1
    obtain ⟨oe3, vs3, he3, hz3, hd3⟩ := fl3.there
    have nfr := not_frame fl3.2.2.1 he3 hd3
    have nL : a ≠ X.env.locals := fun z => nfr (List.mem_filterMap.mpr ⟨X.env, List.mem_cons_self, by rw [hf, z]⟩)
    have nF : a ∉ X.fs := fun hm => let ⟨e, he, q⟩ := List.mem_filterMap.mp hm; nfr (List.mem_filterMap.mpr ⟨e, List.mem_cons_of_mem _ he, q⟩)
    have S3 := J3.suite he3 hd3 na nL nF
    have test : ∀ {x : Str} {c : Value} {np : Pos}, Names X x c → ∀ {Q : Value → Shared → Prop} {E : Value → Shared → Prop}, Q c { s' with heap := h3 } → wpAny (model X.prog X.w) (X.A.mark (some (.ref a))) (eval (.Name x np) X.env) Q E { s' with heap := h3 } := fun {x c np} hc {Q E} q => by
      obtain ⟨hg, hdbg, hm | ⟨hm, hv, hnn⟩⟩ := hc
      · exact ld_glob S3 hg hm q hdbg
      · exact ld_blt S3 hg hm hv q hnn hdbg
    have suite_ : ∀ {h4 : Heap}, HandSPX.FlyingZ B (X.env :: X.outer) a (Zc cls d) h4 → h3.UpToSlots h4 → ∃ oe4, Zc cls d oe4 ∧ (∃ vs, oe4.data = .fields vs) ∧ Inv (X.suite a ((a, oe4) :: (X.pn ++ pins))) [] σ' H' { s' with heap := h4 } := fun {h4} fl4 up4 => by
      have J4 : Inv X pins σ' H' { s' with heap := h4 } := J.landed nb fl4.1 ((up.trans up3).trans up4) os ag
      obtain ⟨oe4, vs4, he4, hz4, hd4⟩ := fl4.there
      exact ⟨oe4, hz4, ⟨_, hd4⟩, J4.suite he4 hd4 na nL nF⟩
    have go : ∀ {hds' : List ExceptHandler} {l' : List (Value × Option Nat × HTs)}, HdsN X hds' l' → wNs X.K Wout D l' cls d σ' H' →
        wpAny (model X.prog X.w) X.A (handleBy (.ref a) X.env hds') (SP X pins D) X.xe { s' with heap := h3 } := by
      intro hds' l' hk
      induction hk with
      | nil => exact fun w => PX.no_clauseZ (Z := Zc cls d) (B := B) (outer := X.outer) hf fl3 fun h4 hh4 up4 => tk _ _ ⟨a, B, sI, pins, σ', H', cls, d, rfl, J, nb, (up.trans up3).trans up4, .inr (.inr (by rw [hs]; exact hh4)), na, os, ag, w⟩
      | @one x c ts b₀ suite np pos' hds2 l2 hc hsu r ih =>
        rintro ⟨b, hb1, hyes, hno⟩
        cases b with
        | false => exact PX.clause_passZ (Z := Zc cls d) (B := B) (outer := X.outer) J3.kIn zc fl3 hb1 (test hc) (ih (hno rfl))
        | true =>
          refine PX.clause_onlyZ (Z := Zc cls d) (B := B) (outer := X.outer) J3.kIn zc fl3 hb1 (test hc) fun h4 fl4 up4 => ?_
          obtain ⟨oe4, hz4, hd4, S4⟩ := suite_ fl4 up4
          refine wpAny_mono ((hsu a oe4 cls d (X.pn ++ pins) hz4 hd4).run [] _ _ H' _ S4 (hyes rfl a na)) (fun f s6 hsp => ?_) (fun _ _ z => z.elim)
          cases f with
          | next => exact let ⟨σ6, H6, S6, q6⟩ := hsp; ⟨_, _, S6.unsuite ok, q6⟩
          | brk => exact let ⟨σ6, H6, S6, q6⟩ := hsp; ⟨_, _, S6.unsuite ok, q6⟩
          | cont => exact let ⟨σ6, H6, S6, q6⟩ := hsp; ⟨_, _, S6.unsuite ok, q6⟩
          | ret u => exact let ⟨v6, σ6, H6, S6, r6, q6⟩ := hsp; ⟨_, _, _, S6.unsuite ok, r6, q6⟩
      | @named x n i c ts b₀ suite np pos' hds2 l2 hi hln hc hsu r ih =>
        rintro ⟨b, hb1, hyes, hno⟩
        cases b with
        | false => exact PX.clause_passZ (Z := Zc cls d) (B := B) (outer := X.outer) J3.kIn zc fl3 hb1 (test hc) (ih (hno rfl))
        | true =>
          refine PX.clause_asZ (Z := Zc cls d) (B := B) (outer := X.outer) J3.kIn zc fl3 hb1 (test hc) fun h4 fl4 up4 => ?_
          obtain ⟨oe4, hz4, hd4, S4⟩ := suite_ fl4 up4
          refine store_ok (X := X.suite a ((a, oe4) :: (X.pn ++ pins))) (v := .ref a) S4 hN hi (.inl hln) rfl (fun s5 S5 => ?_) (.inr hln)
          refine wpAny_mono ((hsu a oe4 cls d (X.pn ++ pins) hz4 hd4).run [] s5 _ H' _ S5 (hyes rfl a na)) (fun f s6 hsp => ?_) (fun _ _ z => z.elim)
          cases f with
          | next => exact let ⟨σ6, H6, S6, q6⟩ := hsp; gone_ok (S6.unsuite ok) hN hi hln fun s7 J7 => ⟨_, _, J7, q6⟩
          | brk => exact let ⟨σ6, H6, S6, q6⟩ := hsp; gone_ok (S6.unsuite ok) hN hi hln fun s7 J7 => ⟨_, _, J7, q6⟩
          | cont => exact let ⟨σ6, H6, S6, q6⟩ := hsp; gone_ok (S6.unsuite ok) hN hi hln fun s7 J7 => ⟨_, _, J7, q6⟩
          | ret u => exact let ⟨v6, σ6, H6, S6, r6, q6⟩ := hsp; gone_ok (S6.unsuite ok) hN hi hln fun s7 J7 => ⟨_, _, _, J7, r6, q6⟩
    exact go hh w
  · cases f with
    | next => exact let ⟨σ', H', K', q⟩ := hsp; wpAny_execs_nil ⟨σ', H', K'.ofTry ok, q⟩
    | brk => exact let ⟨σ', H', K', q⟩ := hsp; ⟨σ', H', K'.ofTry ok, q⟩
    | cont => exact let ⟨σ', H', K', q⟩ := hsp; ⟨σ', H', K'.ofTry ok, q⟩
    | ret u => exact let ⟨v, σ', H', K', r, q⟩ := hsp; ⟨v, σ', H', K'.ofTry ok, r, q⟩
end
end DL
set_option Elab.async false
set_option linter.all false
set_option maxRecDepth 100000
set_option maxHeartbeats 2000000
/-! try over data: clauses with names; e.f, isinstance(e, C) in a clause -/
namespace DL
open PySem PySem.Spec L2
open PyProof.Rows hiding St
structure Cl where
  m : Str → Option Bool
  i : Option Nat
  h : Addr → DX → TDS
def atD : Option Nat → DEnds → DEnds
  | none, D => D
  | some i, D => { nx := fun env => D.nx (env.set i .un), rt := D.rt, bk := fun env => D.bk (env.set i .un), ct := fun env => D.ct (env.set i .un) }
def putD : Option Nat → Addr → SE → SE
  | none, _, env => env
  | some i, a, env => env.set i (.raw (.ref a))
def wDs (ξ : XW) (De : DEnds) : List Cl → DX → SE → Prop
  | [], x, env => ξ x env
  | c :: r, x, env => match c.m x.cls with
    | some true => ∀ a, c.h a x (fun _ _ => False) (atD c.i De) (putD c.i a env)
    | some false => wDs ξ De r x env
    | none => False
def dTryN (cs : List Cl) (body : TDS) : TDS := fun ξ De env => body (fun x env' => wDs ξ De cs x env') De env
theorem FOk.raw {F : FP} {N : Addr → Prop} {σ : L2.St} {H : Hp} {env : SE} (f : FOk F N σ H env) (i : Nat) (v : V) : FOk F N (σ.set i (some v)) H (env.set i (.raw v)) where
  n := f.n
  len := by rw [List.length_set, List.length_set]; exact f.len
  slot := fun j s h => by
    by_cases hj : i = j
    · subst hj
      have hl : i < env.length := by
        have := (List.getElem?_eq_some_iff.mp h).1
        rwa [List.length_set] at this
      rw [List.getElem?_set_self hl] at h
      cases h
      show (σ.set i (some v))[i]? = some (some v)
      rw [List.getElem?_set_self (by rw [f.len]; exact hl)]
    · rw [List.getElem?_set_ne hj] at h
      rw [List.getElem?_set_ne hj]
      exact f.slot j s h
  apart := fun j k p xs ys hjk h1 h2 h3 h4 => by
    have o : ∀ {j : Nat} {xs : List D}, (env.set i (.raw v))[j]? = some (.own xs) → i ≠ j ∧ env[j]? = some (.own xs) := fun {j xs} h => by
      by_cases hj : i = j
      · subst hj
        have hl : i < env.length := by
          have := (List.getElem?_eq_some_iff.mp h).1
          rwa [List.length_set] at this
        rw [List.getElem?_set_self hl] at h
        cases h
      · rw [List.getElem?_set_ne hj] at h
        exact ⟨hj, h⟩
    obtain ⟨n1, h1⟩ := o h1
    obtain ⟨n2, h2⟩ := o h2
    rw [List.getElem?_set_ne n1] at h3
    rw [List.getElem?_set_ne n2] at h4
    exact f.apart j k p xs ys hjk h1 h2 h3 h4
theorem FOk.put {F : FP} {N : Addr → Prop} {σ : L2.St} {H : Hp} {env : SE} (f : FOk F N σ H env) (o : Option Nat) (a : Addr) : FOk F N (putE o a σ) H (putD o a env) := by
  cases o with
  | none => exact f
  | some i => exact f.raw i _
theorem EndsOk.at {F : FP} {N : Addr → Prop} {H : Hp} {Dd : DEnds} {De : Ends} (ok : EndsOk F N H Dd De) (o : Option Nat) : EndsOk F N H (atD o Dd) (atE o De) := by
  cases o with
  | none => exact ok
  | some i => exact ⟨fun N' σ H' env f ev q => ok.nx N' _ H' _ (f.un i) ev q, ok.rt, fun N' σ H' env f ev q => ok.bk N' _ H' _ (f.un i) ev q, fun N' σ H' env f ev q => ok.ct N' _ H' _ (f.un i) ev q⟩
theorem EndsOk.rebase {F : FP} {N : Addr → Prop} {H : Hp} {Dd : DEnds} {De : Ends} {ex : XW} (ok : EndsOk F N H Dd De) (g : Evo F.N1 F.H1 N H) : EndsOk { F with ex := ex, N1 := N, H1 := H } N H Dd De :=
  ⟨fun N' σ H' env f ev q => ok.nx N' σ H' env (f.back g) ev q, ok.rt, fun N' σ H' env f ev q => ok.bk N' σ H' env (f.back g) ev q, fun N' σ H' env f ev q => ok.ct N' σ H' env (f.back g) ev q⟩
/-- what a suite may lean on -/
structure SuiteF (F : FP) (c : Cl) (cls : Value) (d : Option Addr) (y : DX) (F' : FP) : Prop where
  k : F'.K = F.K
  z : F'.Z = F.Z
  ex : F'.ex = fun _ _ => False
  xr : XRep F'.K F'.Z F'.N1 F'.H1 y cls d
  m : c.m y.cls = some true
abbrev tsD (F : FP) (c : Cl) : HTs := fun a cls d De σ H => ∃ (y : DX) (F' : FP), SuiteF F c cls d y F' ∧ sD F' (c.h a y) De σ H
abbrev SuiteD (X : Cx) (F : FP) (sts : List Stmt) (c : Cl) : Prop := ∀ (a : Addr) (oe : Obj) (cls : Value) (d : Option Addr) (pn : List (Addr × Obj)) (y : DX) (F' : FP), Zc cls d oe → (∃ vs, oe.data = .fields vs) → SuiteF F c cls d y F' → PSs (X.suite a ((a, oe) :: pn)) sts (sD F' (c.h a y))
theorem suite_d {X : Cx} {F : FP} {sts : List Stmt} {c : Cl} (h : SuiteD X F sts c) : SuiteOk X sts (tsD F c) := fun a oe cls d pn hz hv =>
  PSs.exP fun y => PSs.exP fun F' => PSs.andP fun s => h a oe cls d pn y F' hz hv s
/-- the clauses below and over data -/
inductive HdD (X : Cx) (F : FP) : List ExceptHandler → List (Value × Option Nat × HTs) → List Cl → Prop
  | nil : HdD X F [] [] []
  | one {x : Str} {c : Value} {cl : Cl} {b₀ : Stmt} {suite : List Stmt} {np pos' : Pos} {hds : List ExceptHandler} {l : List (Value × Option Nat × HTs)} {cs : List Cl} (hc : Names X x c) (hi : cl.i = none) (hm : ∀ n b, cl.m n = some b → PySem.W.exmOne X.K (clsAt X.K n) c = some b)
      (hsu : SuiteD X F (b₀ :: suite) cl) (r : HdD X F hds l cs) : HdD X F (.ExceptHandler (some (.Name x np)) none (b₀ :: suite) pos' :: hds) ((c, none, tsD F cl) :: l) (cl :: cs)
  | named {x n : Str} {i : Nat} {c : Value} {cl : Cl} {b₀ : Stmt} {suite : List Stmt} {np pos' : Pos} {hds : List ExceptHandler} {l : List (Value × Option Nat × HTs)} {cs : List Cl} (hn : X.N[i]? = some n) (hln : X.env.kindOf n = some .local) (hc : Names X x c) (hi : cl.i = some i)
      (hm : ∀ n b, cl.m n = some b → PySem.W.exmOne X.K (clsAt X.K n) c = some b) (hsu : SuiteD X F (b₀ :: suite) cl) (r : HdD X F hds l cs) : HdD X F (.ExceptHandler (some (.Name x np)) (some n) (b₀ :: suite) pos' :: hds) ((c, some i, tsD F cl) :: l) (cl :: cs)
theorem HdD.nm {X : Cx} {F : FP} {hds : List ExceptHandler} {l : List (Value × Option Nat × HTs)} {cs : List Cl} (h : HdD X F hds l cs) : HdsN X hds l := by
  induction h with
  | nil => exact .nil
  | one hc hi hm hsu r ih => exact .one hc (suite_d hsu) ih
  | named hn hln hc hi hm hsu r ih => exact .named hn hln hc (suite_d hsu) ih
theorem HdD.wish {X : Cx} {F : FP} {W : WX} {hds : List ExceptHandler} {l : List (Value × Option Nat × HTs)} {cs : List Cl} (h : HdD X F hds l cs) (hK : F.K = X.K) (wo : WOk F W) {N : Addr → Prop} {σ : L2.St} {H : Hp} {env : SE} {y : DX} {cls : Value} {d : Option Addr} {Dd : DEnds} {De : Ends}
    (f : FOk F N σ H env) (xr : XRep F.K F.Z N H y cls d) (ok : EndsOk F N H Dd De) (hw : wDs F.ex Dd cs y env) : wNs X.K W De l cls d σ H := by
  have step : ∀ (cl : Cl), cl.m y.cls = some true → (∀ a, cl.h a y (fun _ _ => False) (atD cl.i Dd) (putD cl.i a env)) → ∀ a, tsD F cl a cls d (atE cl.i De) (putE cl.i a σ) H := fun cl m hh a =>
    ⟨y, { F with ex := fun _ _ => False, N1 := N, H1 := H }, ⟨rfl, rfl, rfl, xr, m⟩, N, putD cl.i a env, atD cl.i Dd, (f.rebase _).put cl.i a, hh a, (ok.rebase f.n.gr).at cl.i⟩
  induction h with
  | nil => exact wo N σ H env y cls d f xr hw
  | @one x c cl b₀ suite np pos' hds l cs hc hi hm hsu r ih =>
    unfold wDs at hw
    split at hw
    · rename_i m
      refine ⟨true, by rw [xr.1, hK]; exact hm _ _ m, fun _ a _ => ?_, fun z => Bool.noConfusion z⟩
      have := step cl m hw a
      rw [hi] at this
      exact this
    · rename_i m
      exact ⟨false, (by rw [xr.1, hK]; exact hm _ _ m), (fun z => Bool.noConfusion z), fun _ => ih hw⟩
    · exact hw.elim
  | @named x n i c cl b₀ suite np pos' hds l cs hn hln hc hi hm hsu r ih =>
    unfold wDs at hw
    split at hw
    · rename_i m
      refine ⟨true, by rw [xr.1, hK]; exact hm _ _ m, fun _ a _ => ?_, fun z => Bool.noConfusion z⟩
      have := step cl m hw a
      rw [hi] at this
      exact this
    · rename_i m
      exact ⟨false, (by rw [xr.1, hK]; exact hm _ _ m), (fun z => Bool.noConfusion z), fun _ => ih hw⟩
    · exact hw.elim
/-- a frame within a frame: of the same things -/
structure Sub (F F' : FP) : Prop where
  k : F'.K = F.K
  z : F'.Z = F.Z
  b : F'.B = F.B
  h : F'.H0 = F.H0
  g : Evo F.N1 F.H1 F'.N1 F'.H1
section
variable {X : Cx} {F : FP} {W : WX}
theorem ds_tryN {body : List Stmt} {h₀ : ExceptHandler} {hds : List ExceptHandler} {l : List (Value × Option Nat × HTs)} {cs : List Cl} {pos : Pos} {Tb : TDS} (hK : F.K = X.K) (hs : X.stack = X.env :: X.outer) (hf : X.env.frame = some X.env.locals) (hN : X.N.Nodup) (tk : Takes X W) (wo : WOk F W)
    (hb : ∀ (W : WX) (pn : List (Addr × Obj)) (xe : Value → Shared → Prop) (F' : FP), Takes (X.tr pn xe) W → PassesOwn (model X.prog X.w) X.A X.env xe → Sub F F' → WOk F' W → PSs (X.tr pn xe) body (sD F' Tb))
    (hh : HdD X F (h₀ :: hds) l cs) : PS X (.Try body (h₀ :: hds) [] [] pos) (sD F (dTryN cs Tb)) := by
  refine PS.imp (ps_try_nm (tb := fun W De σ H => ∃ F' : FP, (Sub F F' ∧ WOk F' W) ∧ sD F' Tb De σ H) hs hf hN tk (fun W pn xe t1 p1 => PSs.exP fun F' => PSs.andP fun h => hb W pn xe F' t1 p1 h.1 h.2) hh.nm) ?_
  rintro De σ H ⟨N, env, Dd, f, hT, ok⟩
  have g := f.n.gr
  refine ⟨{ F with ex := fun x env' => wDs F.ex Dd cs x env', N1 := N, H1 := H }, ⟨⟨rfl, rfl, rfl, rfl, g⟩, ?_⟩, N, env, Dd, f.rebase _, hT, ok.rebase g⟩
  intro N' σ' H' env' y cls od f' xr hx
  exact hh.wish hK wo (f'.back g) xr (ok.of f'.n.gr) hx
/-! ### in a suite: e.f -/
def dXf (a : Addr) (y : DX) (i : Nat) (f : Str) : TDE := fun _ env Q => env[i]? = some (.raw (.ref a)) ∧ match y.fs.lookup f with
  | some d => Q d
  | none => False
theorem zip_lookup {K : PySem.W.Frag} {Z : Zn} {N : Addr → Prop} {H : Hp} {f : Str} {d : D} : ∀ {fs : List (Str × D)} {vs : List V}, Reps K Z N H (fs.map (·.2)) vs → fs.lookup f = some d → ∃ v, ((fs.map (·.1)).zip vs).lookup f = some v ∧ Rep K Z N H d v
  | [], _, _, e => by cases e
  | (g, x) :: fs, _, ⟨v, r, rfl, h1, h2⟩, e => by
    rw [List.lookup_cons] at e
    rw [List.map_cons, List.zip_cons_cons, List.lookup_cons]
    cases q : (f == g) with
    | true =>
      rw [q] at e
      cases e
      exact ⟨v, rfl, h1⟩
    | false =>
      rw [q] at e
      exact zip_lookup h2 e
theorem xr_at {F : FP} {N : Addr → Prop} {σ : L2.St} {H : Hp} {env : SE} {y : DX} {cls : Value} {d : Option Addr} (f : FOk F N σ H env) (xr : XRep F.K F.Z F.N1 F.H1 y cls d) : XRep F.K F.Z N H y cls d := by
  obtain ⟨h1, h2 | ⟨dd, vs, e, n, h3, h4⟩⟩ := xr
  · exact ⟨h1, .inl h2⟩
  · obtain ⟨h5, n5⟩ := f.n.gr dd _ n kp_xd h3
    exact ⟨h1, .inr ⟨dd, vs, e, n5, h5, Reps.mono f.n.gr _ _ h4⟩⟩
variable {a : Addr} {oe : Obj} {cls : Value} {d : Option Addr} {pn : List (Addr × Obj)} {y : DX} {i : Nat} {x : Str} {p pos : Pos} {F' : FP} {c : Cl}
theorem d_xf {fl : Str} (hK : F.K = X.K) (S : SuiteF F c cls d y F') (hz : Zc cls d oe) (hv : ∃ vs, oe.data = .fields vs) (hX : ∃ C, clsAt X.K y.cls = .ref C ∧ XfC X.K C ∧ PySem.W.findIn X.K (.ref C) fl = some none) (he : PE (X.suite a ((a, oe) :: pn)) (.Name x p) (tVar i))
    (hb : attributeBase (.Name x p) fl X.env (eval (.Name x p) X.env) = eval (.Name x p) X.env := by rfl) : PE (X.suite a ((a, oe) :: pn)) (.Attribute (.Name x p) fl pos) (tD F' (dXf a y i fl)) := by
  obtain ⟨C, hC, T, hno⟩ := hX
  refine PE.imp (pe_xf T hno hz hv he hb) ?_
  rintro σ H Q ⟨N, env, Qd, f, ⟨h1, h2⟩, k⟩
  have e := f.slot i _ h1
  obtain ⟨q1, q2⟩ := xr_at f S.xr
  have hc : cls = .ref C := by rw [q1, S.k, hK]; exact hC
  refine ⟨.ref a, e, rfl, hc, ?_⟩
  split at h2
  · rename_i dv hl
    rcases q2 with ⟨q3, _⟩ | ⟨dd, vs, e1, n, h3, h4⟩
    · rw [q3] at hl
      cases hl
    · obtain ⟨v, l1, l2⟩ := zip_lookup h4 hl
      exact ⟨dd, _, v, e1, h3, l1, k v H dv Ext.refl l2 h2⟩
  · exact h2.elim
/-! ### isinstance(e, C) -/
structure ExIs (K : PySem.W.Frag) (C : Addr) : Prop where
  xf : XfC K C
  hcl : (PySem.W.clsIn K C).isSome = true
  ha : PySem.W.findIn K (.ref C) "__class__" = some (some (.builtin "object.__class__"))
  hn : PySem.W.specialIn K (.builtin "object.__class__") "__get__" = some (some (.builtin "getset_descriptor.__get__"))
  ht : PySem.W.takesIn K (.builtin "object.__class__") = some true
  hm : PySem.W.mroIn K C (.type "object") = some true
def dIsX (a : Addr) (y : DX) (i : Nat) (tb : Str → Option Bool) : TDE := fun _ env Q => env[i]? = some (.raw (.ref a)) ∧ match tb y.cls with
  | some b => Q (.bl b)
  | none => False
def rIsX (K : PySem.W.Frag) (D a : Addr) (d : Option Addr) : List V → Hp → VK → Prop := fun xs H Q => (∀ dd, d = some dd → ∃ fs, H dd = some (.xd fs)) ∧ ∃ (cv : Addr) (b : Bool), xs = [.ref a, .ref cv] ∧ PySem.W.kitOne K (.ref D) (.ref cv) = some b ∧ Q (.bl b) H
theorem cr_isX {D : Addr} (C : ExIs X.K D) (hz : Zc (.ref D) d oe) (hv : ∃ vs, oe.data = .fields vs) : CallR (X.suite a ((a, oe) :: pn)) (.builtin "isinstance") (rIsX X.K D a d) := by
  intro pins s σ H xs us Q I r h
  obtain ⟨hd, cv, b, rfl, e, q⟩ := h
  obtain ⟨u1, r1, rfl, hu1, r2⟩ : ∃ u1 r1, us = u1 :: r1 ∧ RelV (.ref a) u1 ∧ Vals [.ref cv] r1 := by
    cases r with
    | cons ra rb => exact ⟨_, _, rfl, ra, rb⟩
  obtain ⟨u2, rfl, hu2⟩ := vals1 r2
  obtain rfl : u1 = .ref a := hu1
  obtain rfl : u2 = .ref cv := hu2
  obtain ⟨hget, _⟩ := I.pin (a, oe) (List.mem_append.mpr (.inl List.mem_cons_self))
  obtain ⟨vs, hdat⟩ := hv
  obtain ⟨od, J⟩ : ∃ od, PySem.W.InstAt s.heap a oe D od := by
    have nc : PySem.W.notCls oe = true := by
      unfold PySem.W.notCls
      rw [hdat] <;> rfl
    cases d with
    | none => exact ⟨none, hget, hz.1, nc, by rw [hz.2]; trivial⟩
    | some dd =>
      obtain ⟨fs, hx⟩ := hd dd rfl
      obtain ⟨mA, ⟨o, es, ep, ho, hr⟩, _⟩ : ObjOk X.prog X.w H s.heap dd (.xd fs) := I.hok dd _ hx
      exact ⟨some o, hget, hz.1, nc, by rw [hz.2]; exact ho⟩
  exact PySem.W.kia_one (PySem.W.kitx_exc C.hcl C.xf.ga C.xf.gg C.xf.exC C.ha C.hn C.ht C.hm) I.kIn J e (fun z => nomatch z) fun tk => ⟨.bl b, H, I.kept (t' := tk) fun _ _ z => z, rfl, q⟩
theorem d_isX {C2 : Addr} {m : Str} {p1 p2 : Pos} {tb : Str → Option Bool} (hK : F.K = X.K) (S : SuiteF F c cls d y F') (hz : Zc cls d oe) (hv : ∃ vs, oe.data = .fields vs) (hX : ∃ C, clsAt X.K y.cls = .ref C ∧ ExIs X.K C) (he : PE (X.suite a ((a, oe) :: pn)) (.Name x p) (tVar i))
    (ht : ∀ b, tb y.cls = some b → PySem.W.kitOne X.K (clsAt X.K y.cls) (.ref C2) = some b) (hg : Gl X "isinstance") (hm : X.mg "isinstance" = none) (hg2 : Gl X m) (hm2 : X.mg m = some (.ref C2)) (hd2 : (m == ("__debug__" : Str)) = false := by decide)
    (hs1 : starEach [.Name x p, .Name m p2] X.env = (false, eval (.Name x p) X.env) :: starEach [.Name m p2] X.env := by rfl) (hs2 : starEach [.Name m p2] X.env = (false, eval (.Name m p2) X.env) :: starEach [] X.env := by rfl) (hpl : (backTo pos (starEach [.Name m p2] X.env)).any (·.1) = false := by rfl) :
    PE (X.suite a ((a, oe) :: pn)) (.Call (.Name "isinstance" p1) [.Name x p, .Name m p2] [] pos) (tD F' (dIsX a y i tb)) := by
  obtain ⟨C, hC, T⟩ := hX
  have hc : cls = .ref C := by
    rw [S.xr.1, S.k, hK]
    exact hC
  subst hc
  refine PE.imp (pe_callB (cr_isX T hz hv) hg hm (by decide +kernel) (pa_cons he (pa_cons (pe_glob (v := .ref C2) hg2 hm2 rfl hd2) pa_nil hs2) hs1) (by decide) (by decide) hs1 hpl) ?_
  rintro σ H Q ⟨N, env, Qd, f, ⟨h1, h2⟩, k⟩
  have e := f.slot i _ h1
  obtain ⟨q1, q2⟩ := xr_at f S.xr
  split at h2
  · rename_i b hb
    refine ⟨.ref a, e, ?_, C2, b, rfl, by rw [← hC]; exact ht b hb, k _ H _ Ext.refl rep_bl h2⟩
    intro dd e1
    rcases q2 with ⟨_, q3⟩ | ⟨d2, vs, e2, n, h3, h4⟩
    · rw [q3] at e1
      cases e1
    · rw [e2] at e1
      cases e1
      exact ⟨_, h3⟩
  · exact h2.elim
end
end DL
set_option Elab.async false
set_option linter.all false
set_option maxRecDepth 100000
set_option maxHeartbeats 2000000
/-! slices, in, ^, chains, sum, tuple(..), list(..), str(..), min, max over data -/
namespace DL
open PySem PySem.Spec L2
open PyProof.Rows hiding St
section
variable {X : Cx} {F : FP} {a b c e : Expr} {es : List Expr} {pos p : Pos} {Ta Tb Tc : TDE} {Tas : TDA}
/-! ### slices -/
def cutD {α : Type} (xs : List α) (lo hi : Option Int) : List α := (xs.drop (HT.sIx xs.length 0 lo)).take (HT.sIx xs.length xs.length hi - HT.sIx xs.length 0 lo)
abbrev TDO := XW → SE → (Option Int → Prop) → Prop
def dNoPart : TDO := fun _ _ Q => Q none
def dPart (T : TDE) : TDO := fun ξ env Q => T ξ env fun d => match d with
  | .int i => Q (some i)
  | _ => False
def tDO (F : FP) (T : TDO) : TO := fun σ H Q => ∃ N env Qd, FOk F N σ H env ∧ T F.ex env Qd ∧ ∀ o H', Ext F.Z H H' → Qd o → Q o H'
theorem PO.imp {lo : Option Expr} {t t' : TO} (h : PO X lo t) (hi : ∀ σ H Q, t' σ H Q → t σ H Q) : PO X lo t' := ⟨fun pins s σ H Q I hw => h.run pins s σ H Q I (hi _ _ _ hw)⟩
theorem do_none : PO X none (tDO F dNoPart) := PO.imp po_none (by
  rintro σ H Q ⟨N, env, Qd, f, hT, k⟩
  exact k none H Ext.refl hT)
theorem do_some (h : PE X e (tD F Ta)) : PO X (some e) (tDO F (dPart Ta)) := PO.imp (po_some h) (by
  rintro σ H Q ⟨N, env, Qd, f, hT, k⟩
  refine ⟨N, env, _, f, hT, fun v H1 d e1 r q => ?_⟩
  cases d <;> first | exact q.elim | exact ⟨_, r, k _ _ e1 q⟩)
def gSl (x : D) (lo hi : Option Int) (Q : D → Prop) : Prop := match x with
  | .tup ds => Q (.tup (cutD ds lo hi))
  | .lst ds => Q (.lst (cutD ds lo hi))
  | _ => False
def dSl (T : TDE) (l h : TDO) : TDE := fun ξ env Q => T ξ env fun x => l ξ env fun lo => h ξ env fun hi => gSl x lo hi Q
theorem Reps.cut {K : PySem.W.Frag} {Z : Zn} {N : Addr → Prop} {H : Hp} {ds : List D} {vs : List V} (r : Reps K Z N H ds vs) (lo hi : Option Int) : Reps K Z N H (cutD ds lo hi) (cutV vs lo hi) := by
  unfold cutD cutV
  rw [r.length]
  exact (r.drop _).take _
theorem cut_whole {α : Type} {xs : List α} {lo hi : Option Int} (h : HT.sIx xs.length 0 lo = 0 ∧ HT.sIx xs.length xs.length hi = xs.length) : cutD xs lo hi = xs := by
  unfold cutD
  rw [h.1, h.2]
  simp
theorem d_slice {lo hi : Option Expr} {p2 : Pos} {l h : TDO} (hK : F.K = X.K) (he : PE X e (tD F Ta)) (hl : PO X lo (tDO F l)) (hu : PO X hi (tDO F h)) : PE X (.Subscript e (.Slice lo hi none p2) pos) (tD F (dSl Ta l h)) := PE.imp (pe_slice (SlR.or sl_tupA sl_list) he hl hu) (by
  rintro σ H Q ⟨N, env, Qd, f, hT, k⟩
  refine ⟨N, env, _, f, hT, fun x H1 d e1 r1 q1 => ⟨N, env, _, f.ext' e1, q1, fun lo H2 e2 q2 => ⟨N, env, _, (f.ext' e1).ext' e2, q2, fun hi H3 e3 q3 => ?_⟩⟩⟩
  have f3 := ((f.ext' e1).ext' e2).ext' e3
  have r3 := r1.ext (e2.trans e3) f.n.z
  have e := (e1.trans e2).trans e3
  cases d <;> first | exact q3.elim | skip
  · rename_i ds
    have r4 := r3
    obtain ⟨a, vs, rfl, ra, rs⟩ := r3
    refine .inl ⟨a, vs, rfl, by rw [← hK]; exact sqt_of ra, fun hw => ?_, fun hw p hp => ?_⟩
    · refine k _ H3 _ e r4 ?_
      rw [← rs.length] at hw
      rw [show gSl (.tup ds) lo hi Qd = Qd (.tup (cutD ds lo hi)) from rfl, cut_whole hw] at q3
      exact q3
    · exact k _ _ _ (e.trans (f3.n.lay hp)) (rep_newT f3.n hp (rs.cut lo hi)) q3
  · rename_i ds
    obtain ⟨a, vs, rfl, na, ra, rs⟩ := r3
    exact .inr ⟨a, vs, rfl, SqL.of ra, fun p hp => k _ _ _ (e.trans (f3.n.lay hp)) (rep_newL f3.n hp (rs.cut lo hi)) q3⟩)
/-! ### in -/
def vOf : D → Option V
  | .non => some .non
  | .bl b => some (.bl b)
  | .int i => some (.int i)
  | .str x => some (.str x)
  | _ => none
theorem vOf_rep {K : PySem.W.Frag} {Z : Zn} {N : Addr → Prop} {H : Hp} {d : D} {v w : V} (h : vOf d = some w) (r : Rep K Z N H d v) : v = w ∧ flatV w = true := by
  cases d <;> first | (cases h; done) | skip
  all_goals
    cases h
    exact ⟨r, rfl⟩
theorem vOfs_reps {K : PySem.W.Frag} {Z : Zn} {N : Addr → Prop} {H : Hp} : ∀ {ds : List D} {vs ws : List V}, ds.mapM vOf = some ws → Reps K Z N H ds vs → vs = ws ∧ ws.all flatV = true
  | [], _, _, h, r => by
    cases h
    cases r
    exact ⟨rfl, rfl⟩
  | d :: ds, _, _, h, ⟨v, r, rfl, h1, h2⟩ => by
    rw [List.mapM_cons] at h
    cases q : vOf d with
    | none => rw [q] at h; cases h
    | some w =>
      cases q2 : ds.mapM vOf with
      | none => rw [q, q2] at h; cases h
      | some ws =>
        rw [q, q2] at h
        cases h
        obtain ⟨rfl, f1⟩ := vOf_rep q h1
        obtain ⟨rfl, f2⟩ := vOfs_reps q2 h2
        exact ⟨rfl, by rw [List.all_cons, f1, f2]; rfl⟩
def seqOf : D → Option (List D)
  | .tup ds => some ds
  | .lst ds => some ds
  | _ => none
def gIn (neg : Bool) : G2 := fun x y Q => match vOf x, (seqOf y).bind (·.mapM vOf) with
  | some v, some vs => Q (.bl (if neg then !inV v vs else inV v vs))
  | _, _ => False
theorem opd_in (neg : Bool) : OpD F (rIn F.K neg) (gIn neg) := ⟨by
  intro N H x y dx dy Qd Q n rx ry h k
  unfold gIn at h
  split at h
  · rename_i v vs h1 h2
    obtain ⟨rfl, f1⟩ := vOf_rep h1 rx
    cases dy <;> first | (cases h2; done) | skip
    · rename_i ds
      obtain ⟨a, ws, rfl, ra, rs⟩ := ry
      obtain ⟨rfl, f2⟩ := vOfs_reps (show ds.mapM vOf = some vs from h2) rs
      exact ⟨a, _, rfl, .inr (sqt_of ra), f1, f2, k _ _ _ Ext.refl rep_bl h⟩
    · rename_i ds
      obtain ⟨a, ws, rfl, na, ra, rs⟩ := ry
      obtain ⟨rfl, f2⟩ := vOfs_reps (show ds.mapM vOf = some vs from h2) rs
      exact ⟨a, _, rfl, .inl (SqL.of ra), f1, f2, k _ _ _ Ext.refl rep_bl h⟩
  · exact h.elim⟩
theorem d_in (hK : F.K = X.K) (ha : PE X a (tD F Ta)) (hb : PE X b (tD F Tb)) (hm : behindInMarks .In b = false := by rfl) : PE X (.Compare a [.In] [b] pos) (tD F (dBin (gIn false) Ta Tb)) := by
  have o := opd_in (F := F) false
  rw [hK] at o
  exact d_cmp op_in_seq o ha hb hm
theorem dt_in (hK : F.K = X.K) (ha : PE X a (tD F Ta)) (hb : PE X b (tD F Tb)) (hm : behindInMarks .In b = false := by rfl) : PT X (.Compare a [.In] [b] pos) (tDT F (dTest (dBin (gIn false) Ta Tb))) := by
  have o := opd_in (F := F) false
  rw [hK] at o
  exact dt_cmp op_in_seq o ha hb hm
theorem d_nin (hK : F.K = X.K) (ha : PE X a (tD F Ta)) (hb : PE X b (tD F Tb)) (hm : behindInMarks .NotIn b = false := by rfl) : PE X (.Compare a [.NotIn] [b] pos) (tD F (dBin (gIn true) Ta Tb)) := by
  have o := opd_in (F := F) true
  rw [hK] at o
  exact d_cmp op_notIn_seq o ha hb hm
theorem dt_nin (hK : F.K = X.K) (ha : PE X a (tD F Ta)) (hb : PE X b (tD F Tb)) (hm : behindInMarks .NotIn b = false := by rfl) : PT X (.Compare a [.NotIn] [b] pos) (tDT F (dTest (dBin (gIn true) Ta Tb))) := by
  have o := opd_in (F := F) true
  rw [hK] at o
  exact dt_cmp op_notIn_seq o ha hb hm
/-! ### ^ -/
abbrev gXor : G2 := gI0 fun i j => .int (Builtin.bitXor i j)
theorem d_xor (ha : PE X a (tD F Ta)) (hb : PE X b (tD F Tb)) : PE X (.BinOp a .BitXor b pos) (tD F (dBin gXor Ta Tb)) := d_op op_xor (opd_I0 fun _ _ _ _ => rfl) ha hb
abbrev gModN : G2 := gI (fun _ j => j ≠ 0) fun i j => .int (i.fmod j)
theorem d_modN (ha : PE X a (tD F Ta)) (hb : PE X b (tD F Tb)) : PE X (.BinOp a .Mod b pos) (tD F (dBin gModN Ta Tb)) := d_op op_modN (opd_I fun _ _ _ _ => rfl) ha hb
/-! ### a < b < c -/
def dChain (g g' : G2) (Ta Tb Tc : TDE) : TDE := fun ξ env Q => Ta ξ env fun x => Tb ξ env fun y => g x y fun z => match z with
  | .bl true => Tc ξ env fun w => g' y w Q
  | .bl false => Q (.bl false)
  | _ => False
theorem chain_imp {r r' : R2} {g g' : G2} (hg : OpD F r g) (hg' : OpD F r' g') : ∀ σ H Q, tD F (dChain g g' Ta Tb Tc) σ H Q → tChain r r' (tD F Ta) (tD F Tb) (tD F Tc) σ H Q := by
  rintro σ H Q ⟨N, env, Qd, f, hT, k⟩
  refine ⟨N, env, _, f, hT, fun x H1 dx e1 rx q1 => ⟨N, env, _, f.ext' e1, q1, fun y H2 dy e2 ry q2 => ?_⟩⟩
  have f2 := (f.ext' e1).ext' e2
  refine hg.ok N H2 x y dx dy _ _ f2.n (rx.ext e2 f.n.z) ry q2 fun v H3 d e3 r3 q3 => ?_
  have f3 := f2.ext' e3
  have e := (e1.trans e2).trans e3
  split at q3
  · refine ⟨true, r3, ?_⟩
    rw [if_pos rfl]
    exact ⟨N, env, _, f3, q3, fun w H4 dw e4 rw' q4 => hg'.ok N H4 y w dy dw _ _ (f3.ext' e4).n (ry.ext (e3.trans e4) f.n.z) rw' q4 fun v H5 d5 e5 r5 q5 => k v H5 d5 ((e.trans e4).trans e5) r5 q5⟩
  · refine ⟨false, r3, ?_⟩
    rw [if_neg Bool.false_ne_true]
    exact k _ _ _ e rep_bl q3
  · exact q3.elim
theorem d_chain {op op' : CmpOp} {r r' : R2} {g g' : G2} (ho : OpR X (compareOp op) r) (ho' : OpR X (compareOp op') r') (hg : OpD F r g) (hg' : OpD F r' g') (ha : PE X a (tD F Ta)) (hb : PE X b (tD F Tb)) (hc : PE X c (tD F Tc))
    (hm : lastMarks [op, op'] [b, c] = false := by with_unfolding_all rfl) : PE X (.Compare a [op, op'] [b, c] pos) (tD F (dChain g g' Ta Tb Tc)) := PE.imp (pe_chain ho ho' ha hb hc hm) (chain_imp hg hg')
theorem dt_chain {op op' : CmpOp} {r r' : R2} {g g' : G2} (ho : OpR X (compareOp op) r) (ho' : OpR X (compareOp op') r') (hg : OpD F r g) (hg' : OpD F r' g') (ha : PE X a (tD F Ta)) (hb : PE X b (tD F Tb)) (hc : PE X c (tD F Tc))
    (hm : lastMarks [op, op'] [b, c] = false := by with_unfolding_all rfl) : PT X (.Compare a [op, op'] [b, c] pos) (tDT F (dTest (dChain g g' Ta Tb Tc))) := PT.imp (pt_chain ho ho' ha hb hc hm) (tTest_imp (chain_imp hg hg'))
theorem od_lt : OpD F (rI0 fun i j => .bl (decide (i < j))) gLt := opd_I0 fun _ _ _ _ => rfl
theorem od_le : OpD F (rI0 fun i j => .bl (decide (i ≤ j))) gLe := opd_I0 fun _ _ _ _ => rfl
/-! ### sum -/
def intsOf : List D → Option (List Int)
  | [] => some []
  | .int i :: ds => (intsOf ds).map (i :: ·)
  | _ :: _ => none
theorem intsOf_eq : ∀ {ds : List D} {ns : List Int}, intsOf ds = some ns → ds = ns.map D.int
  | [], ns, h => by simp [intsOf] at h; subst h; rfl
  | d :: ds, ns, h => by
    cases d <;> first | (simp [intsOf] at h; done) | skip
    rename_i i
    simp only [intsOf, Option.map_eq_some_iff] at h
    obtain ⟨r, h1, h2⟩ := h
    rw [← h2, intsOf_eq h1]; rfl
theorem intsOf_map (ns : List Int) : intsOf (ns.map D.int) = some ns := by
  induction ns with
  | nil => rfl
  | cons n ns ih => rw [List.map_cons, intsOf, ih]; rfl
def gSum : GA := fun xs Q => match xs with
  | [x] => match (seqOf x).bind intsOf with
    | some ns => Q (.int ns.sum)
    | none => False
  | _ => False
def rSumA (K : PySem.W.Frag) : List V → Hp → VK → Prop := fun vs H Q => ∃ (a : Addr) (ns : List Int), vs = [V.ref a] ∧ (SqL K H a (ns.map V.int) ∨ SqT K H a (ns.map V.int)) ∧ Q (.int ns.sum) H
theorem cr_sumA (hc : X.calm = true) : CallR X (.builtin "sum") (rSumA X.K) := by
  intro pins s σ H vs us Q I r h
  obtain ⟨a, ns, rfl, hs | ht, q⟩ := h
  · exact cr_sum hc pins s σ H _ us Q I r ⟨a, ns, rfl, hs, q⟩
  · obtain ⟨its, rv, hl, _⟩ := I.tuple ht
    rw [Vals.ref1 r]
    obtain ⟨xs, e⟩ := rv.ints.allInts.items
    have hn : numsOf (intItems xs).toList = ns := by rw [← e]; exact rv.ints.numsOf
    rw [nums_intItems] at hn
    rw [e] at hl
    have ht2 : s.heap.IsTuple a (intItems xs) := let ⟨o, ho, hc, n, hd⟩ := hl; ⟨o, ho, hc, n, hd⟩
    refine PySem.W.ktm_sumG (I.ok.hd hc) ht2 fun h' tk t' hk => ⟨.int ns.sum, H, I.kept hk, ⟨t', ?_⟩, q⟩
    rw [preSum_eq, List.take_of_length_le (by simp), hn]
theorem cd_sum : CallD F (rSumA F.K) gSum := ⟨by
  intro N H vs ds Qd Q n r h k
  unfold gSum at h
  split at h
  · rename_i x
    split at h
    · rename_i ns hb
      obtain ⟨v, r, rfl, h1, h2⟩ := r
      cases h2
      cases x <;> first | (cases hb; done) | skip
      · rename_i ds
        obtain ⟨a, vs, rfl, ra, rs⟩ := h1
        rw [intsOf_eq (show intsOf ds = some ns from hb)] at rs
        rw [rs.ints] at ra
        exact ⟨a, ns, rfl, .inr (sqt_of ra), k _ _ _ Ext.refl rep_int h⟩
      · rename_i ds
        obtain ⟨a, vs, rfl, na, ra, rs⟩ := h1
        rw [intsOf_eq (show intsOf ds = some ns from hb)] at rs
        rw [rs.ints] at ra
        exact ⟨a, ns, rfl, .inl (SqL.of ra), k _ _ _ Ext.refl rep_int h⟩
    · exact h.elim
  · exact h.elim⟩
/-! ### tuple(x), list(x), str(i), min, max -/
def gTuple : GA := fun xs Q => match xs with
  | [.lst ds] => Q (.tup ds)
  | [.tup ds] => Q (.tup ds)
  | _ => False
theorem cd_tuple : CallD F (fun xs H Q => ∃ p ys, xs = [.ref p] ∧ ((SqL F.K H p ys ∧ ∀ l, H l = none → Q (.ref l) (upd H l (.tup ys))) ∨ (SqT F.K H p ys ∧ Q (.ref p) H))) gTuple := ⟨by
  intro N H vs ds Qd Q n r h k
  unfold gTuple at h
  split at h
  · obtain ⟨v, r, rfl, h1, h2⟩ := r
    cases h2
    obtain ⟨a, vs, rfl, na, ra, rs⟩ := h1
    exact ⟨a, vs, rfl, .inl ⟨SqL.of ra, fun p hp => k _ _ _ (n.lay hp) (rep_newT n hp rs) h⟩⟩
  · obtain ⟨v, r, rfl, h1, h2⟩ := r
    cases h2
    have h3 := h1
    obtain ⟨a, vs, rfl, ra, rs⟩ := h1
    exact ⟨a, vs, rfl, .inr ⟨sqt_of ra, k _ _ _ Ext.refl h3 h⟩⟩
  · exact h.elim⟩
def gList : GA := fun xs Q => match xs with
  | [.lst ds] => Q (.lst ds)
  | [.tup ds] => Q (.lst ds)
  | _ => False
theorem cd_list : CallD F (fun xs H Q => ∃ p ys, xs = [.ref p] ∧ (SqL F.K H p ys ∨ SqT F.K H p ys) ∧ ∀ l, H l = none → Q (.ref l) (upd H l (.lst ys))) gList := ⟨by
  intro N H vs ds Qd Q n r h k
  unfold gList at h
  split at h
  · obtain ⟨v, r, rfl, h1, h2⟩ := r
    cases h2
    obtain ⟨a, vs, rfl, na, ra, rs⟩ := h1
    exact ⟨a, vs, rfl, .inl (SqL.of ra), fun p hp => k _ _ _ (n.lay hp) (rep_newL n hp rs) h⟩
  · obtain ⟨v, r, rfl, h1, h2⟩ := r
    cases h2
    obtain ⟨a, vs, rfl, ra, rs⟩ := h1
    exact ⟨a, vs, rfl, .inr (sqt_of ra), fun p hp => k _ _ _ (n.lay hp) (rep_newL n hp rs) h⟩
  · exact h.elim⟩
def gStr : GA := fun xs Q => match xs with
  | [.int i] => i.natAbs.log2 < 1920 ∧ Q (.str (toString i))
  | _ => False
theorem cd_str : CallD F (fun xs H Q => ∃ i : Int, xs = [.int i] ∧ i.natAbs.log2 < 1920 ∧ Q (.str (toString i)) H) gStr := ⟨by
  intro N H vs ds Qd Q n r h k
  unfold gStr at h
  split at h
  · obtain ⟨v, r, rfl, h1, h2⟩ := r
    cases h2
    exact ⟨_, by rw [show v = _ from h1], h.1, k _ _ _ Ext.refl rep_str h.2⟩
  · exact h.elim⟩
def gMax2 : GA := fun xs Q => match xs with
  | [.int i, .int j] => Q (.int (if j > i then j else i))
  | _ => False
def gMin2 : GA := fun xs Q => match xs with
  | [.int i, .int j] => Q (.int (if j < i then j else i))
  | _ => False
theorem cd_max2 : CallD F (fun xs H Q => ∃ i j, xs = [.int i, .int j] ∧ Q (.int (if j > i then j else i)) H) gMax2 := ⟨by
  intro N H vs ds Qd Q n r h k
  unfold gMax2 at h
  split at h
  · obtain ⟨v, _, rfl, h1, w, _, rfl, h2, h3⟩ := r
    cases h3
    exact ⟨_, _, by rw [show v = _ from h1, show w = _ from h2], k _ _ _ Ext.refl rep_int h⟩
  · exact h.elim⟩
theorem cd_min2 : CallD F (fun xs H Q => ∃ i j, xs = [.int i, .int j] ∧ Q (.int (if j < i then j else i)) H) gMin2 := ⟨by
  intro N H vs ds Qd Q n r h k
  unfold gMin2 at h
  split at h
  · obtain ⟨v, _, rfl, h1, w, _, rfl, h2, h3⟩ := r
    cases h3
    exact ⟨_, _, by rw [show v = _ from h1, show w = _ from h2], k _ _ _ Ext.refl rep_int h⟩
  · exact h.elim⟩
end
end DL
set_option Elab.async false
set_option linter.all false
set_option maxRecDepth 100000
set_option maxHeartbeats 2000000
/-! lists of the def's own: made, appended to, stored to, read, let go as data -/
namespace DL
open PySem PySem.Spec L2
open PyProof.Rows hiding St
/-- a new list at p -/
structure NewL (F : FP) (N : Addr → Prop) (σ : L2.St) (H : Hp) (env : SE) (p : Addr) (vs : List V) (H' : Hp) (ds : List D) : Prop where
  ext : Ext F.Z H H'
  f : FOk F (fun q => N q ∨ q = p) σ H' env
  at_ : H' p = some (.lst vs)
  nb : ¬ F.B p
  rs : Reps F.K F.Z (fun q => N q ∨ q = p) H' ds vs
  ap : ∀ (j : Nat) xs, env[j]? = some (.own xs) → σ[j]? = some (some (.ref p)) → False
  fr : ∀ o, Kp o → H p = some o → False
theorem NOk.fr {F : FP} {N : Addr → Prop} {H H1 : Hp} {p : Addr} (n : NOk F N H) (e : Ext F.Z H H1) (hp : H1 p = none) : ∀ o, Kp o → H p = some o → False := fun o k h => by
  have np := (n.ext' e).fresh hp
  rw [e.keep p o (fun z => np (n.z p z)) k h] at hp
  cases hp
theorem FOk.ap {F : FP} {N : Addr → Prop} {σ : L2.St} {H : Hp} {env : SE} (f : FOk F N σ H env) {p : Addr} (np : ¬ N p) : ∀ (j : Nat) xs, env[j]? = some (.own xs) → σ[j]? = some (some (.ref p)) → False := fun j xs h e => by
  obtain ⟨q, vs, h1, h2, _⟩ := f.slot j _ h
  rw [h1] at e
  cases e
  exact np h2
abbrev TDL := XW → SE → (List D → Prop) → Prop
def tDL (F : FP) (T : TDL) : TE := fun σ H Q => ∃ N env Qd, FOk F N σ H env ∧ T F.ex env Qd ∧ ∀ p vs H' ds, NewL F N σ H env p vs H' ds → Qd ds → Q (.ref p) H'
/-- slot i holds the list -/
theorem NewL.own {F : FP} {N : Addr → Prop} {σ : L2.St} {H : Hp} {env : SE} {p : Addr} {vs : List V} {H' : Hp} {ds : List D} (n : NewL F N σ H env p vs H' ds) (i : Nat) : FOk F (fun q => N q ∨ q = p) (σ.set i (some (.ref p))) H' (env.set i (.own ds)) where
  n := n.f.n
  len := by rw [List.length_set, List.length_set]; exact n.f.len
  slot := fun j s h => by
    by_cases hj : i = j
    · subst hj
      have hl : i < env.length := by
        have := (List.getElem?_eq_some_iff.mp h).1
        rwa [List.length_set] at this
      rw [List.getElem?_set_self hl] at h
      cases h
      exact ⟨p, vs, by rw [List.getElem?_set_self (by rw [n.f.len]; exact hl)], .inr rfl, n.nb, n.at_, n.rs⟩
    · rw [List.getElem?_set_ne hj] at h
      rw [List.getElem?_set_ne hj]
      exact n.f.slot j s h
  apart := fun j k q xs ys hjk h1 h2 h3 h4 => by
    have o : ∀ {j : Nat} {xs : List D}, (env.set i (.own ds))[j]? = some (.own xs) → i ≠ j → env[j]? = some (.own xs) := fun {j xs} h hj => by
      rw [List.getElem?_set_ne hj] at h
      exact h
    have at_i : ∀ {r : Addr}, (σ.set i (some (.ref p)))[i]? = some (some (.ref r)) → r = p := fun {r} h => by
      have hl : i < σ.length := by
        have := (List.getElem?_eq_some_iff.mp h).1
        rwa [List.length_set] at this
      rw [List.getElem?_set_self hl] at h
      cases h
      rfl
    by_cases hj : i = j
    · subst hj
      have e := at_i h3
      subst e
      rw [List.getElem?_set_ne hjk] at h4
      exact n.ap k ys (o h2 hjk) h4
    · by_cases hk : i = k
      · subst hk
        have e := at_i h4
        subst e
        rw [List.getElem?_set_ne hj] at h3
        exact n.ap j xs (o h1 hj) h3
      · rw [List.getElem?_set_ne hj] at h3
        rw [List.getElem?_set_ne hk] at h4
        exact n.f.apart j k q xs ys hjk (o h1 hj) (o h2 hk) h3 h4
theorem NewL.evo {F : FP} {N : Addr → Prop} {σ : L2.St} {H : Hp} {env : SE} {p : Addr} {vs : List V} {H' : Hp} {ds : List D} (n : NewL F N σ H env p vs H' ds) (nk : NOk F N H) : Evo N H (fun q => N q ∨ q = p) H' := fun q o nq k e =>
  ⟨n.ext.keep q o (fun z => nq (nk.z q z)) k e, fun z => z.elim nq fun y => n.fr o k (by rw [← y]; exact e)⟩
section
variable {X : Cx} {F : FP} {a b c e : Expr} {es : List Expr} {pos p p1 p2 : Pos} {Ta Tb Tc : TDE} {Tas : TDA} {Tl : TDL} {tt : TDT} {te : TDE}
/-! ### new lists -/
def lLst (T : TDA) : TDL := fun ξ env Q => T ξ env fun ds => ds.length ≤ sizeLine ∧ Q ds
theorem newL_lay {N : Addr → Prop} {σ : L2.St} {H H1 : Hp} {env : SE} {p : Addr} {vs : List V} {ds : List D} (f : FOk F N σ H env) (e : Ext F.Z H H1) (hp : H1 p = none) (r : Reps F.K F.Z N H1 ds vs) : NewL F N σ H env p vs (upd H1 p (.lst vs)) ds := by
  have f1 := f.ext' e
  refine ⟨e.trans (f1.n.lay hp), f1.with kp_lst hp (f1.nb hp), upd_same, f1.nb hp, ?_, f.ap (f1.n.fresh hp), f.n.fr e hp⟩
  exact Reps.mono (fun q o n k h => by
    have ne := ne_of_none h hp
    exact ⟨by rw [upd_ne ne]; exact h, fun z => z.elim n ne⟩) _ _ r
theorem l_lst (h : PA X es (tDA F Tas)) : PE X (.List es pos) (tDL F (lLst Tas)) := PE.imp (pe_lst h) (by
  rintro σ H Q ⟨N, env, Qd, f, hT, k⟩
  refine ⟨N, env, _, f, hT, fun vs H1 ds e1 r1 q1 => ⟨by rw [← r1.length]; exact q1.1, fun p hp => k p vs _ ds (newL_lay f e1 hp r1) q1.2⟩⟩)
theorem lc_endL {N : Addr → Prop} {σ : L2.St} {H0 H1 H' : Hp} {env : SE} {A : Addr} {all : List D} {Ql : List D → Prop} {j : Nat} (f : FOk F N σ H1 env) (hA : H1 A = none) {G : TDG} {Q : VK} (f0 : FOk F N σ H0 env) (e : Ext F.Z H0 H1)
    (k : ∀ p vs H' ds, NewL F N σ H0 env p vs H' ds → Ql ds → Q (.ref p) H') {n : Nat} (hn : all.length = n) (L : LcAt F N H1 A G tt te (wipeD env [j]) all (fun d => match d with | .lst ds => Ql ds | _ => False) n H') : Q (.ref A) H' := by
  obtain ⟨ext, acc, ds, h1, h2, h3, h4⟩ := L
  rw [← hn, List.drop_length] at h4
  have h4 : Ql (ds ++ []) := h4
  rw [List.append_nil] at h4
  exact k A acc H' ds ⟨e.trans ext, f.with' kp_lst hA ext h1, h1, f.nb hA, h3, f.ap (f.n.fresh hA), f0.n.fr e hA⟩ h4
def lLcR (T : TDA) (j : Nat) (tt : TDT) (te : TDE) : TDL := fun ξ env Q => T ξ env fun ds => match ds with
  | [.int n] => (0 ≤ n ∧ n ≤ sizeLine) ∧ lcD (dgName j) tt te (wipeD env [j]) (intsD 0 n.toNat) Q
  | _ => False
theorem lcR_impL {j : Nat} : ∀ σ H Q, tDL F (lLcR Tas j tt te) σ H Q → tLc (iRng1 (tDA F Tas)) (gName j) (tDT F.calm tt) (tD F.calm te) [j] σ H Q := by
  rintro σ H Q ⟨N, env, Qd, f, hT, k⟩
  refine ⟨N, env, _, f, hT, fun vs H1 ds e1 r q => ?_⟩
  split at q
  · rename_i n
    obtain ⟨v, _, rfl, r1, r2⟩ := r
    cases r2
    have f1 := f.ext' e1
    have hs : (sizeLine : Nat) < 2 ^ 62 := by rw [sizeLine_eq]; decide
    refine ⟨n, by rw [show v = _ from r1], by omega, by omega, fun A hA => ?_⟩
    refine lc_range (lo := 0) (n := n.toNat) (fun i H' => LcAt F N H1 A (dgName j) tt te (wipeD env [j]) (intsD 0 n.toNat) (fun d => match d with | .lst ds => Qd ds | _ => False) i H') (lc_start f1.n hA q.2) (fun i H' hi L => ?_) (fun H' L => lc_endL f1 hA f e1 k ints_len L)
    exact lc_turn f1 hA (by rw [ints_len]; omega) (ints_get hi) rep_int L
  · exact q.elim
def lLc (T : TDE) (j : Nat) (tt : TDT) (te : TDE) : TDL := fun ξ env Q => T ξ env fun d => match d with
  | .lst ds => ds.length ≤ sizeLine ∧ lcD (dgName j) tt te (wipeD env [j]) ds Q
  | _ => False
theorem lc_impL {j : Nat} : ∀ σ H Q, tDL F (lLc Ta j tt te) σ H Q → tLc (iList F.K (tD F Ta)) (gName j) (tDT F.calm tt) (tD F.calm te) [j] σ H Q := by
  rintro σ H Q ⟨N, env, Qd, f, hT, k⟩
  refine ⟨N, env, _, f, hT, fun v H1 d e1 r q => ?_⟩
  cases d <;> first | exact q.elim | skip
  rename_i ds
  obtain ⟨a, vs, rfl, na, ra, rs⟩ := r
  have f1 := f.ext' e1
  refine ⟨a, rfl, ⟨vs, SqL.of ra⟩, fun A hA => ?_⟩
  refine lc_list (K := F.K) (a := a) (xs := vs) (fun i H' => LcAt F N H1 A (dgName j) tt te (wipeD env [j]) ds (fun d => match d with | .lst ds => Qd ds | _ => False) i H') (lc_start f1.n hA q.2) (fun i H' _ L => SqL.of (L.ext.keep a _ (fun z => na (f.n.z a z)) kp_lst ra)) (fun i x H' hx L => ?_) (fun H' L => lc_endL f1 hA f e1 k rs.length L)
  obtain ⟨d, hd, rd⟩ := rs.getV hx
  exact lc_turn f1 hA q.1 hd rd L
variable {elt iter tg : Expr} {ifs : List Expr} {scope : Scope} {own : List (Str × Nat)} {j : Nat} {pos' : Pos}
theorem l_lcR (hK : F.K = X.K) (hc : X.calm = true) (hN : X.N.Nodup) (hgl : Gl X "range") (hm : X.mg "range" = none) (ha : PA X [a] (tDA F Tas)) (ok : BlkOk X.N X.env.scope scope own) (hv : own.map (·.2) = [j])
    (hg : ∀ (s : Shared) (H : Hp) (C : Addr) (cl : List (Str × Addr)) (fp : List Addr), PG (X.blk s H scope (compEnvC scope cl C X.env) fp) tg (gName j)) (ht : ∀ (s : Shared) (H : Hp) (C : Addr) (cl : List (Str × Addr)) (fp : List Addr), PTs (X.blk s H scope (compEnvC scope cl C X.env) fp) ifs (tDT F.calm tt))
    (he : ∀ (s : Shared) (H : Hp) (C : Addr) (cl : List (Str × Addr)) (fp : List Addr), PE (X.blk s H scope (compEnvC scope cl C X.env) fp) elt (tD F.calm te)) (hsa : starEach [a] X.env = [(false, eval a X.env)] := by rfl) (hs : ∀ x, foldedSetIterable (.Call (.Name "range" p) [a] [] pos') X.env x = pure x := by intro _; rfl) :
    PE X (.ListComp elt [⟨tg, .Call (.Name "range" p) [a] [] pos', ifs, 0⟩] scope pos) (tDL F (lLcR Tas j tt te)) := by
  have z := pe_lc (pos := pos) hc hN (pi_range1 hgl hm ha hsa) ok hg ht he hs
  rw [hv] at z
  exact PE.imp z lcR_impL
theorem l_lc (hK : F.K = X.K) (hc : X.calm = true) (hN : X.N.Nodup) (hi : PE X iter (tD F Ta)) (ok : BlkOk X.N X.env.scope scope own) (hv : own.map (·.2) = [j])
    (hg : ∀ (s : Shared) (H : Hp) (C : Addr) (cl : List (Str × Addr)) (fp : List Addr), PG (X.blk s H scope (compEnvC scope cl C X.env) fp) tg (gName j)) (ht : ∀ (s : Shared) (H : Hp) (C : Addr) (cl : List (Str × Addr)) (fp : List Addr), PTs (X.blk s H scope (compEnvC scope cl C X.env) fp) ifs (tDT F.calm tt))
    (he : ∀ (s : Shared) (H : Hp) (C : Addr) (cl : List (Str × Addr)) (fp : List Addr), PE (X.blk s H scope (compEnvC scope cl C X.env) fp) elt (tD F.calm te)) (hs : ∀ x, foldedSetIterable iter X.env x = pure x := by intro _; rfl) :
    PE X (.ListComp elt [⟨tg, iter, ifs, 0⟩] scope pos) (tDL F (lLc Ta j tt te)) := by
  have z := pe_lc (pos := pos) hc hN (pi_list hi) ok hg ht he hs
  rw [hv] at z
  exact PE.imp z (by rw [← hK]; exact lc_impL)
/-- [..] * k -/
def lRep (Ta Tb : TDE) : TDL := fun ξ env Q => Ta ξ env fun x => Tb ξ env fun y => match x, y with
  | .lst xs, .int k => (-(2 ^ 63) ≤ k ∧ k < 2 ^ 63 ∧ xs.length * k.toNat ≤ sizeLine) ∧ Q (List.replicate k.toNat xs).flatten
  | _, _ => False
theorem l_rep (ha : PE X a (tD F Ta)) (hb : PE X b (tD F Tb)) : PE X (.BinOp a .Mult b pos) (tDL F (lRep Ta Tb)) := PE.imp (pe_op op_rep ha hb) (by
  rintro σ H Q ⟨N, env, Qd, f, hT, k⟩
  refine ⟨N, env, _, f, hT, fun x H1 dx e1 rx q1 => ⟨N, env, _, f.ext' e1, q1, fun y H2 dy e2 ry q2 => ?_⟩⟩
  have r3 := rx.ext e2 f.n.z
  split at q2
  · obtain ⟨l, vs, rfl, nl, hl, rl⟩ := r3
    cases (show y = .int _ from ry)
    exact ⟨l, _, vs, rfl, rfl, hl, q2.1.1, q2.1.2.1, by rw [← rl.length]; exact q2.1.2.2, fun p hp => k p _ _ _ (newL_lay f (e1.trans e2) hp (reps_flat rl _)) q2.2⟩
  · exact q2.elim)
/-- a + b, lists -/
def lCat (Ta Tb : TDE) : TDL := fun ξ env Q => Ta ξ env fun x => Tb ξ env fun y => match x, y with
  | .lst xs, .lst ys => xs.length + ys.length ≤ sizeLine ∧ Q (xs ++ ys)
  | _, _ => False
theorem l_cat (ha : PE X a (tD F Ta)) (hb : PE X b (tD F Tb)) : PE X (.BinOp a .Add b pos) (tDL F (lCat Ta Tb)) := PE.imp (pe_op op_cat ha hb) (by
  rintro σ H Q ⟨N, env, Qd, f, hT, k⟩
  refine ⟨N, env, _, f, hT, fun x H1 dx e1 rx q1 => ⟨N, env, _, f.ext' e1, q1, fun y H2 dy e2 ry q2 => ?_⟩⟩
  have r3 := rx.ext e2 f.n.z
  split at q2
  · obtain ⟨l, vs, rfl, nl, hl, rl⟩ := r3
    obtain ⟨b, ws, rfl, nb, hb, rb⟩ := ry
    exact ⟨l, b, vs, ws, rfl, rfl, hl, hb, by rw [← rl.length, ← rb.length]; exact q2.1, fun p hp => k p _ _ _ (newL_lay f (e1.trans e2) hp (rl.append rb)) q2.2⟩
  · exact q2.elim)
/-- list(x) -/
def lList (T : TDE) : TDL := fun ξ env Q => T ξ env fun x => match x with
  | .lst xs => Q xs
  | .tup xs => Q xs
  | _ => False
theorem l_list (hK : F.K = X.K) (hg : Gl X "list") (hm : X.mg "list" = none) (ha : PE X a (tD F Ta)) (he : starEach [a] X.env = (false, eval a X.env) :: starEach [] X.env := by rfl) (hpl : (backTo pos (starEach [] X.env)).any (·.1) = false := by rfl) :
    PE X (.Call (.Name "list" p) [a] [] pos) (tDL F (lList Ta)) := PE.imp (pe_callTy call_list_of hg hm (by decide +kernel) (pa_cons ha pa_nil he) (by decide) (by decide) he hpl) (by
  rintro σ H Q ⟨N, env, Qd, f, hT, k⟩
  refine ⟨N, env, _, f, hT, fun x H1 dx e1 rx q1 => ?_⟩
  rw [← hK]
  split at q1
  · obtain ⟨l, vs, rfl, nl, hl, rl⟩ := rx
    exact ⟨l, vs, rfl, .inl (SqL.of hl), fun p hp => k p _ _ _ (newL_lay f e1 hp rl) q1⟩
  · obtain ⟨l, vs, rfl, hl, rl⟩ := rx
    exact ⟨l, vs, rfl, .inr (sqt_of hl), fun p hp => k p _ _ _ (newL_lay f e1 hp rl) q1⟩
  · exact q1.elim)
/-! ### x = new list; x, y = new list, e -/
def dOwn (T : TDL) (i : Nat) : TDS := fun ξ De env => T ξ env fun ds => De.nx (env.set i (.own ds))
theorem ds_own {i : Nat} {x : Str} {pos' : Pos} (hN : X.N.Nodup) (hi : X.N[i]? = some x) (hx : Loc X.env.scope x) (he : PE X e (tDL F Tl)) (hs : swapsWith e (some (.Name x pos')) pos.line X.env = pure false := by rfl)
    (hf : X.fn x = true ∨ X.env.scope.names.lookup x = some .local := by first | exact .inl rfl | exact .inr rfl | assumption) : PS X (.Assign [.Name x pos'] e pos) (sD F (dOwn Tl i)) :=
  PS.imp (ps_set hN hi hx he hs hf) (by
  rintro De σ H ⟨N, env, Dd, f, hT, ok⟩
  exact ⟨N, env, _, f, hT, fun p vs H' ds n q => ok.nx _ _ _ _ (n.own i) (n.evo f.n) q⟩)
/-- x, y = new list, e -/
def dOwnPar (T : TDL) (Tb : TDE) (i j : Nat) : TDS := fun ξ De env => T ξ env fun ds => Tb ξ env fun y => De.nx ((env.set i (.own ds)).set j (.d y))
theorem NewL.ext' {N : Addr → Prop} {σ : L2.St} {H : Hp} {env : SE} {p : Addr} {vs : List V} {H' H2 : Hp} {ds : List D} (n : NewL F N σ H env p vs H' ds) (nk : NOk F N H) (e : Ext F.Z H' H2) : NewL F N σ H env p vs H2 ds :=
  ⟨n.ext.trans e, n.f.ext' e, e.keep p _ (fun z => n.nb (nk.zin p z)) kp_lst n.at_, n.nb, n.rs.ext e (fun q z => .inl (nk.z q z)), n.ap, n.fr⟩
/-- the old frame, behind the making of a list -/
theorem NewL.old {N : Addr → Prop} {σ : L2.St} {H : Hp} {env : SE} {p : Addr} {vs : List V} {H' : Hp} {ds : List D} (n : NewL F N σ H env p vs H' ds) (f : FOk F N σ H env) : FOk F N σ H' env := f.ext' n.ext
theorem ds_ownPar {i j : Nat} {x y : Str} {px py pt : Pos} {kt k2 pt2} (hc : X.calm = true) (hN : X.N.Nodup) (hi : X.N[i]? = some x) (hj : X.N[j]? = some y) (hij : i ≠ j) (hx : X.env.scope.names.lookup x = some .local) (hy : X.env.scope.names.lookup y = some .local)
    (ha : PE X a (tDL F Tl)) (hb : PE X b (tD F Tb)) (he : starEach [a, b] X.env = (false, eval a X.env) :: starEach [b] X.env := by rfl) (he2 : starEach [b] X.env = (false, eval b X.env) :: starEach [] X.env := by rfl)
    (hw : swappedStores [.Tuple [.Name x px, .Name y py] kt pt] (.Tuple [a, b] k2 pt2) X.env = pure (some [x, y]) := by rfl)
    (hs : swapsWithSole [.Tuple [.Name x px, .Name y py] kt pt] (.Tuple [a, b] k2 pt2) pos.line X.env = pure false := by rfl) : PS X (.Assign [.Tuple [.Name x px, .Name y py] kt pt] (.Tuple [a, b] k2 pt2) pos) (sD F (dOwnPar Tl Tb i j)) :=
  PS.imp (ps_par hc hN hi hj hij hx hy (pa_cons ha (pa_cons hb pa_nil he2) he) hw hs) (by
  rintro De σ H ⟨N, env, Dd, f, hT, ok⟩
  refine ⟨N, env, _, f, hT, fun p vs H1 ds n q => ⟨_, env, _, n.f, q, fun v H2 d e2 r2 q2 => ⟨_, _, rfl, ?_⟩⟩⟩
  have n2 := n.ext' f.n e2
  exact ok.nx _ _ _ _ ((n2.own i).set j r2) (n2.evo f.n) q2)
def dOwnPar3 (T : TDL) (Tb Tc : TDE) (i j l : Nat) : TDS := fun ξ De env => T ξ env fun ds => Tb ξ env fun y => Tc ξ env fun z => De.nx (((env.set i (.own ds)).set j (.d y)).set l (.d z))
theorem ds_ownPar3 {i j l : Nat} {x y z : Str} {px py pz pt : Pos} {kt k2 pt2} (hc : X.calm = true) (hN : X.N.Nodup) (hi : X.N[i]? = some x) (hj : X.N[j]? = some y) (hl : X.N[l]? = some z) (hij : i ≠ j) (hil : i ≠ l) (hjl : j ≠ l)
    (hx : X.env.scope.names.lookup x = some .local) (hy : X.env.scope.names.lookup y = some .local) (hz : X.env.scope.names.lookup z = some .local)
    (ha : PE X a (tDL F Tl)) (hb : PE X b (tD F Tb)) (hc' : PE X c (tD F Tc)) (he : starEach [a, b, c] X.env = (false, eval a X.env) :: starEach [b, c] X.env := by rfl) (he2 : starEach [b, c] X.env = (false, eval b X.env) :: starEach [c] X.env := by rfl) (he3 : starEach [c] X.env = (false, eval c X.env) :: starEach [] X.env := by rfl)
    (hw : swappedStores [.Tuple [.Name x px, .Name y py, .Name z pz] kt pt] (.Tuple [a, b, c] k2 pt2) X.env = pure (some [x, y, z]) := by rfl)
    (hs : swapsWithSole [.Tuple [.Name x px, .Name y py, .Name z pz] kt pt] (.Tuple [a, b, c] k2 pt2) pos.line X.env = pure false := by rfl) : PS X (.Assign [.Tuple [.Name x px, .Name y py, .Name z pz] kt pt] (.Tuple [a, b, c] k2 pt2) pos) (sD F (dOwnPar3 Tl Tb Tc i j l)) :=
  PS.imp (ps_par3 hc hN hi hj hl hij hil hjl hx hy hz (pa_cons ha (pa_cons hb (pa_cons hc' pa_nil he3) he2) he) hw hs) (by
  rintro De σ H ⟨N, env, Dd, f, hT, ok⟩
  refine ⟨N, env, _, f, hT, fun p vs H1 ds n q => ⟨_, env, _, n.f, q, fun v H2 d e2 r2 q2 => ⟨_, env, _, n.f.ext' e2, q2, fun w H3 dw e3 r3 q3 => ⟨_, _, _, rfl, ?_⟩⟩⟩⟩
  have n2 := n.ext' f.n (e2.trans e3)
  exact ok.nx _ _ _ _ (((n2.own i).set j (r2.ext e3 fun q z => .inl (f.n.z q z))).set l r3) (n2.evo f.n) q3)
/-! ### reading it -/
def dOwnIx (i : Nat) (Tb : TDE) : TDE := fun ξ env Q => match env[i]? with
  | some (.own xs) => Tb ξ env fun k => match k with
    | .int j => match atI xs j with
      | some d => Q d
      | none => False
    | _ => False
  | _ => False
theorem d_ownIx {i : Nat} (hK : F.K = X.K) (ha : PE X a (tVar i)) (hb : PE X b (tD F Tb)) (hs : PlainIx b) : PE X (.Subscript a b pos) (tD F (dOwnIx i Tb)) := PE.imp (pe_ix ix_seq ha hb hs) (by
  rintro σ H Q ⟨N, env, Qd, f, hT, k⟩
  unfold dOwnIx at hT
  split at hT
  · rename_i xs hx
    obtain ⟨p, vs, e1, h2, h3, h4, h5⟩ := f.slot i _ hx
    refine ⟨.ref p, e1, N, env, _, f, hT, fun y H1 d e r q => ?_⟩
    split at q
    · split at q
      · rename_i jj _ dv hd
        have h5' := h5.ext e f.n.z
        obtain ⟨v, h6, h7⟩ := atI_rep h5' hd
        cases (show y = .int _ from r)
        exact .inl ⟨p, vs, _, v, rfl, rfl, SqL.of (e.keep p _ (fun z => h3 (f.n.zin p z)) kp_lst h4), h6, k v H1 dv e h7 q⟩
      · exact q.elim
    · exact q.elim
  · exact hT.elim)
/-- the list as data, for a moment -/
theorem FOk.lend {N : Addr → Prop} {σ : L2.St} {H : Hp} {env : SE} (f : FOk F N σ H env) {i : Nat} {xs : List D} (hx : env[i]? = some (.own xs)) : ∃ p vs, σ[i]? = some (some (.ref p)) ∧ N p ∧ ¬ F.B p ∧ H p = some (.lst vs) ∧ FOk F (fun q => N q ∧ q ≠ p) σ H (env.set i (.d (.lst xs))) := by
  obtain ⟨p, vs, e1, h2, h3, h4, h5⟩ := f.slot i _ hx
  refine ⟨p, vs, e1, h2, h3, h4, ⟨f.n.deck, f.n.ext, fun q h => ⟨f.n.sub q h, fun z => h3 (by rw [← z]; exact h)⟩, f.n.zin, fun q h => f.n.all q h.1, fun q h => f.n.new q h.1, fun q o n k h => ?_, f.n.tb⟩, by rw [List.length_set]; exact f.len, fun j s h => ?_, fun j k q ys zs hjk g1 g2 g3 g4 => ?_⟩
  · obtain ⟨a1, a2⟩ := f.n.gr q o n k h
    exact ⟨a1, fun z => a2 z.1⟩
  · by_cases hj : i = j
    · subst hj
      have hl : i < env.length := (List.getElem?_eq_some_iff.mp hx).1
      rw [List.getElem?_set_self hl] at h
      cases h
      exact ⟨.ref p, e1, p, vs, rfl, fun z => z.2 rfl, h4, h5.less fun q z => z.1⟩
    · rw [List.getElem?_set_ne hj] at h
      have q := f.slot j _ h
      cases s with
      | un => trivial
      | raw v => exact q
      | d x => exact let ⟨v, q1, q2⟩ := q; ⟨v, q1, q2.less fun r z => z.1⟩
      | own ys =>
        obtain ⟨r, ws, q1, q2, q3, q4, q5⟩ := q
        exact ⟨r, ws, q1, ⟨q2, fun z => by subst z; exact f.apart i j r xs ys hj hx h e1 q1⟩, q3, q4, q5.less fun r z => z.1⟩
  · have o : ∀ {j : Nat} {ys : List D}, (env.set i (.d (.lst xs)))[j]? = some (.own ys) → env[j]? = some (.own ys) := fun {j ys} h => by
      by_cases hj : i = j
      · subst hj
        rw [List.getElem?_set_self (List.getElem?_eq_some_iff.mp hx).1] at h
        cases h
      · rw [List.getElem?_set_ne hj] at h
        exact h
    exact f.apart j k q ys zs hjk (o g1) (o g2) g3 g4
def flatD : D → Bool
  | .non => true
  | .bl _ => true
  | .int _ => true
  | .str _ => true
  | _ => false
theorem flat_any {K : PySem.W.Frag} {Z : Zn} {N N' : Addr → Prop} {H : Hp} {d : D} {v : V} (h : flatD d = true) (r : Rep K Z N H d v) : Rep K Z N' H d v := by
  cases d <;> first | exact r | cases h
/-- an expression that reads the list of slot i as data and tells something flat -/
def dLend (i : Nat) (T : TDE) : TDE := fun ξ env Q => match env[i]? with
  | some (.own xs) => T (fun _ _ => False) (env.set i (.d (.lst xs))) fun d => flatD d = true ∧ Q d
  | _ => False
theorem d_lend {i : Nat} (h : PE X e (tD F.calm Ta)) : PE X e (tD F (dLend i Ta)) := PE.imp h (by
  rintro σ H Q ⟨N, env, Qd, f, hT, k⟩
  unfold dLend at hT
  split at hT
  · rename_i xs hx
    obtain ⟨p, vs, e1, h2, h3, h4, f2⟩ := f.lend hx
    exact ⟨_, _, _, f2.wish _, hT, fun v H' d e r q => k v H' d e (flat_any q.1 r) q.2⟩
  · exact hT.elim)
/-! ### let go: from now on it is data -/
def dFreeze (i : Nat) (T : TDS) : TDS := fun ξ De env => match env[i]? with
  | some (.own xs) => T ξ De (env.set i (.d (.lst xs)))
  | _ => False
theorem dss_freeze {i : Nat} {sts : List Stmt} {T : TDS} (h : PSs X sts (sD F T)) : PSs X sts (sD F (dFreeze i T)) := PSs.imp h (by
  rintro De σ H ⟨N, env, Dd, f, hT, ok⟩
  unfold dFreeze at hT
  split at hT
  · rename_i xs hx
    obtain ⟨p, vs, e1, h2, h3, h4, f2⟩ := f.lend hx
    exact ⟨_, _, Dd, f2, hT, ok.of fun q o n k h => ⟨h, fun z => n z.1⟩⟩
  · exact hT.elim)
/-! ### x.append(e), x[i] = e -/
theorem FOk.store {N : Addr → Prop} {σ : L2.St} {H1 : Hp} {env : SE} (f : FOk F N σ H1 env) {i : Nat} {xs ys : List D} {p : Addr} {vs ws : List V} (hx : env[i]? = some (.own xs)) (e1 : σ[i]? = some (some (.ref p))) (h2 : N p) (h3 : ¬ F.B p) (h4 : H1 p = some (.lst vs)) (hr : Reps F.K F.Z N H1 ys ws) :
    FOk F N σ (upd H1 p (.lst ws)) (env.set i (.own ys)) ∧ Evo N H1 N (upd H1 p (.lst ws)) := by
  have ev : Evo N H1 N (upd H1 p (.lst ws)) := fun q o n k h => ⟨by rw [upd_ne (fun z => n (by rw [z]; exact h2))]; exact h, n⟩
  have nz : ¬ InZ F.Z p := fun z => h3 (f.n.zin p z)
  refine ⟨⟨⟨⟨fun a l ez => ?_, fun q hq => tab_upd h4 kp_lst (fun _ h => by cases h) (f.n.deck.2 q hq)⟩, ⟨fun q o n k h => ?_, fun dk => ⟨fun a l ez => ?_, fun q hq => tab_upd h4 kp_lst (fun _ h => by cases h) (f.n.deck.2 q hq)⟩⟩, f.n.sub, f.n.zin, fun q h => ?_, f.n.new, f.n.gr.trans ev, f.n.tb⟩, by rw [List.length_set]; exact f.len, fun j s h => ?_, fun j k q ys' zs hjk g1 g2 g3 g4 => ?_⟩, ev⟩
  · obtain ⟨xs, m, c, k1, k2, k3⟩ := f.n.deck.1 a l ez
    exact ⟨xs, m, c, by rw [upd_ne (fun z => nz (by rw [← z]; exact ⟨a, l, ez, .inl rfl⟩))]; exact k1, by rw [upd_ne (fun z => nz (by rw [← z]; exact ⟨a, l, ez, .inr rfl⟩))]; exact k2, k3⟩
  · have ne : q ≠ p := fun z => by
      subst z
      exact f.n.new q h2 h3 o k h
    rw [upd_ne ne]
    exact f.n.ext.keep q o n k h
  · obtain ⟨xs, m, c, k1, k2, k3⟩ := f.n.deck.1 a l ez
    exact ⟨xs, m, c, by rw [upd_ne (fun z => nz (by rw [← z]; exact ⟨a, l, ez, .inl rfl⟩))]; exact k1, by rw [upd_ne (fun z => nz (by rw [← z]; exact ⟨a, l, ez, .inr rfl⟩))]; exact k2, k3⟩
  · by_cases z : q = p
    · subst z
      exact ⟨_, upd_same, kp_lst⟩
    · obtain ⟨o, q1, q2⟩ := f.n.all q h
      exact ⟨o, by rw [upd_ne z]; exact q1, q2⟩
  · have mv : ∀ q o, ¬ N q → Kp o → H1 q = some o → upd H1 p (.lst ws) q = some o ∧ ¬ N q := fun q o n k h => ev q o n k h
    by_cases hj : i = j
    · subst hj
      rw [List.getElem?_set_self (List.getElem?_eq_some_iff.mp hx).1] at h
      cases h
      exact ⟨p, ws, e1, h2, h3, upd_same, Reps.mono mv _ _ hr⟩
    · rw [List.getElem?_set_ne hj] at h
      have q := f.slot j _ h
      cases s with
      | un => trivial
      | raw v => exact q
      | d x => exact let ⟨v, q1, q2⟩ := q; ⟨v, q1, Rep.mono mv _ _ q2⟩
      | own zs =>
        obtain ⟨r, us, q1, q2, q3, q4, q5⟩ := q
        have ne : r ≠ p := fun z => by
          subst z
          exact f.apart i j r xs zs hj hx h e1 q1
        exact ⟨r, us, q1, q2, q3, by rw [upd_ne ne]; exact q4, Reps.mono mv _ _ q5⟩
  · have o : ∀ {j : Nat} {zs : List D}, (env.set i (.own ys))[j]? = some (.own zs) → ∃ us, env[j]? = some (.own us) := fun {j zs} h => by
      by_cases hj : i = j
      · subst hj
        exact ⟨xs, hx⟩
      · rw [List.getElem?_set_ne hj] at h
        exact ⟨zs, h⟩
    obtain ⟨u1, o1⟩ := o g1
    obtain ⟨u2, o2⟩ := o g2
    exact f.apart j k q u1 u2 hjk o1 o2 g3 g4
def dApp (i : Nat) (T : TDE) : TDS := fun ξ De env => match env[i]? with
  | some (.own xs) => T ξ env fun d => xs.length < sizeLine ∧ De.nx (env.set i (.own (xs ++ [d])))
  | _ => False
theorem ds_app {i : Nat} {x : Str} {apos cpos : Pos} (hK : F.K = X.K) (hx : PE X (.Name x p) (tVar i)) (he : PE X e (tD F Ta)) (hbase : attributeBase (.Name x p) "append" X.env (eval (.Name x p) X.env) = eval (.Name x p) X.env := by rfl)
    (hfew : ((backTo cpos (starEach [e] X.env)).all (fun x => !x.1) && (backToKw cpos (keywordEach [] X.env)).all (fun x => x.1.isSome) && decide ([e].length + ([] : List Keyword).length + (if ([] : List Keyword).isEmpty then 0 else 1) < 30)) = true := by rfl)
    (hline : (apos.endLine == cpos.line) = true := by rfl) (hs : starEach [e] X.env = (false, eval e X.env) :: starEach [] X.env := by rfl) (hplain : (backTo cpos (starEach [] X.env)).any (·.1) = false := by rfl)
    (hsw : swapsWith (.Call (.Attribute (.Name x p) "append" apos) [e] [] cpos) none pos.line X.env = pure false := by rfl) : PS X (.Expr (.Call (.Attribute (.Name x p) "append" apos) [e] [] cpos) pos) (sD F (dApp i Ta)) :=
  PS.imp (ps_expr (pe_bm PySem.F.plainAttrs_list PySem.F.slot_list_append PySem.F.type_list_append mt_append hx (pa_cons he pa_nil hs) hbase hfew hline hs hplain) hsw) (by
  rintro De σ H ⟨N, env, Dd, f, hT, ok⟩
  unfold dApp at hT
  split at hT
  · rename_i xs hx
    obtain ⟨p, vs, e1, h2, h3, h4, h5⟩ := f.slot i _ hx
    refine ⟨.ref p, e1, .inl ⟨rfl, vs, by rw [← hK]; exact SqL.of h4⟩, N, env, _, f, hT, fun v H1 d ex r q => ?_⟩
    have f1 := f.ext' ex
    have h4' : H1 p = some (.lst vs) := ex.keep p _ (fun z => h3 (f.n.zin p z)) kp_lst h4
    have h5' := h5.ext ex f.n.z
    refine ⟨p, vs, v, rfl, rfl, h4', by rw [← h5.length]; exact q.1, ?_⟩
    obtain ⟨f2, ev⟩ := f1.store hx e1 h2 h3 h4' (h5'.snoc r)
    exact ok.nx _ _ _ _ f2 ((Evo.of f.n ex).trans ev) q.2
  · exact hT.elim)
/-- x[k] = e -/
def dSetAt (i : Nat) (Tk Te : TDE) : TDS := fun ξ De env => Te ξ env fun d => match env[i]? with
  | some (.own xs) => Tk ξ env fun k => match k with
    | .int j => match ixN xs.length j with
      | some n => De.nx (env.set i (.own (xs.set n d)))
      | none => False
    | _ => False
  | _ => False
theorem Reps.set {K : PySem.W.Frag} {Z : Zn} {N : Addr → Prop} {H : Hp} {d : D} {v : V} (r : Rep K Z N H d v) : ∀ {ds : List D} {vs : List V} (n : Nat), Reps K Z N H ds vs → Reps K Z N H (ds.set n d) (vs.set n v)
  | [], _, _, h => by cases h; rfl
  | x :: ds, _, 0, ⟨w, u, rfl, h1, h2⟩ => ⟨v, u, rfl, r, h2⟩
  | x :: ds, _, n + 1, ⟨w, u, rfl, h1, h2⟩ => ⟨w, u.set n v, rfl, h1, Reps.set r n h2⟩
theorem ds_setAt {i : Nat} {x : Str} {pk : Expr} {sp : Pos} (hx : PE X (.Name x p) (tVar i)) (hk : PE X pk (tD F Tb)) (he : PE X e (tD F Ta))
    (hA : ∀ v, assign (.Subscript (.Name x p) pk sp) X.env v = (do
      let ov ← holding [v] (eval (.Name x p) X.env)
      let iv ← holding [v, ov] (eval pk X.env)
      standAt sp
      holding [v, ov, iv] (setItem ov iv v)
      release [v, ov, iv] []) := by intro _; rfl)
    (hs : swapsWithSole [.Subscript (.Name x p) pk sp] e pos.line X.env = pure false := by rfl) (hw : swappedStores [.Subscript (.Name x p) pk sp] e X.env = pure none := by rfl) (h1 : (assignEach [.Subscript (.Name x p) pk sp] X.env).map (·.2) = [assign (.Subscript (.Name x p) pk sp) X.env] := by rfl) :
    PS X (.Assign [.Subscript (.Name x p) pk sp] e pos) (sD F (dSetAt i Tb Ta)) := PS.imp (ps_asg he (pg_sub hx hk set_list hA) hs hw h1) (by
  rintro De σ H ⟨N, env, Dd, f, hT, ok⟩
  refine ⟨N, env, _, f, hT, fun v H1 d e1 r q => ?_⟩
  split at q
  · rename_i xs hx
    have f1 := f.ext' e1
    obtain ⟨p, vs, s1, h2, h3, h4, h5⟩ := f1.slot i _ hx
    refine ⟨.ref p, s1, N, env, _, f1, q, fun kv H2 dk e2 r2 q2 => ?_⟩
    split at q2
    · split at q2
      · rename_i j _ n hn
        cases (show kv = .int j from r2)
        have f2 := f1.ext' e2
        have h4' : H2 p = some (.lst vs) := e2.keep p _ (fun z => h3 (f1.n.zin p z)) kp_lst h4
        have h5' := h5.ext e2 f1.n.z
        refine ⟨p, vs, j, n, rfl, rfl, h4', by rw [← h5.length]; exact hn, ?_⟩
        obtain ⟨f3, ev⟩ := f2.store hx s1 h2 h3 h4' (Reps.set (r.ext e2 f1.n.z) n h5')
        exact ok.nx _ _ _ _ f3 ((Evo.of f.n (e1.trans e2)).trans ev) q2
      · exact q2.elim
    · exact q2.elim
  · exact q.elim)
end
end DL
set_option Elab.async false
set_option linter.all false
set_option maxRecDepth 100000
set_option maxHeartbeats 2000000
/-! dicts as data; repr of all data; x[::-1] -/
namespace DL
open PySem PySem.Spec L2
open PyProof.Rows hiding St
/-- the table of modules is a dict of the top -/
def smB (K : PySem.W.Frag) : Bool := match K.lookup sysModules with
  | some ⟨.type "dict", _, _, _⟩ => true
  | _ => false
theorem sm_ne {K : PySem.W.Frag} {h : Heap} (X : K.In h) (c : smB K = true) {a : Addr} {o : Obj} (e : h.get? a = some o) (hc : o.cls = .type "list") : a ≠ sysModules := fun z => by
  subst z
  unfold smB at c
  split at c
  · rename_i d1 d2 d3 q
    have y := X _ _ q
    rw [e] at y
    have y2 := congrArg Obj.cls (Option.some.inj y)
    rw [hc] at y2
    exact absurd (show Value.type "list" = Value.type "dict" from y2) (by decide)
  · cases c
def keyP : Key → PyData
  | .inl i => .int i
  | .inr x => .str x
mutual
def plainR : D → Bool
  | .tup ds => plainRs ds
  | .lst ds => plainRs ds
  | .dct ks ds => decide (ks.length = ds.length) && plainRs ds
  | .deck => false
  | .ty _ => false
  | .kt _ => false
  | .ins _ _ _ => false
  | _ => true
def plainRs : List D → Bool
  | [] => true
  | d :: ds => plainR d && plainRs ds
end
theorem toPk_keys : ∀ {ks : List Key} {ds : List D}, ks.length = ds.length → (toPk ks ds).map (·.1) = ks.map keyP ∧ (toPk ks ds).map (·.2) = toPs ds
  | [], [], _ => ⟨rfl, rfl⟩
  | [], _ :: _, h => by cases h
  | _ :: _, [], h => by cases h
  | k :: ks, d :: ds, h => by
    obtain ⟨h1, h2⟩ := toPk_keys (ks := ks) (ds := ds) (by simpa using h)
    simp only [toPk, List.map_cons, h1, h2, toPs]
    refine ⟨?_, trivial⟩
    cases k <;> rfl
section
variable {X : Cx} {pins : List (Addr × Obj)} {σ : L2.St} {H : Hp} {s : Shared} {K : PySem.W.Frag} {Z : Zn} {N : Addr → Prop}
theorem pairs_reads {P : Program} {w : World} {h : Heap} : ∀ {es : List DictEntry} {ks : List Key} {vs : List V} {us : List (Key × Value)}, KV (ks.zip vs) us → ks.length = vs.length → Pairs (mixKind P w) es us → ReadsAll h (es.map (·.key)) (ks.map keyP) [] ∧ Vals vs (es.map (·.val))
  | es, [], [], us, kv, _, p => by
    cases kv
    cases p
    exact ⟨.nil, .nil⟩
  | es, [], _ :: _, us, kv, l, p => by cases l
  | es, _ :: _, [], us, kv, l, p => by cases l
  | es, k :: ks, v :: vs, us, kv, l, p => by
    rw [List.zip_cons_cons] at kv
    cases kv with
    | cons a b =>
      cases p with
      | cons p1 p2 p3 =>
        rename_i e es'
        obtain ⟨h1, h2⟩ := pairs_reads (h := h) b (by simpa using l) p3
        have a1 := a.1
        dsimp only at a1
        rw [← a1] at p1
        refine ⟨?_, .cons (by show L2.RelV v e.val; rw [p2]; exact a.2) h2⟩
        rcases keyIs_shape (show keyIs k e.key = true from p1) with ⟨i, t, rfl, e2⟩ | ⟨x, t, rfl, e2⟩
        · rw [List.map_cons, e2]
          exact ReadsAll.cons (as := []) (.int i t) h1
        · rw [List.map_cons, e2]
          exact ReadsAll.cons (as := []) (.str x t) h1
mutual
/-- data is read as the library reads it, dicts too -/
theorem Rep.reads (I : Inv X pins σ H s) (c : smB X.K = true) : ∀ (d : D) (v : V) (u : Value), plainR d = true → Rep X.K Z N H d v → RelV v u → ∃ as, Reads s.heap u (toP d) as ∧ sysModules ∉ as
  | .non, _, _, _, h, r => by
    cases (show _ = V.non from h)
    cases (show _ = Value.none from r)
    exact ⟨_, .none, by simp⟩
  | .bl b, _, _, _, h, r => by
    cases (show _ = V.bl b from h)
    cases (show _ = Value.bool b from r)
    exact ⟨_, .bool b, by simp⟩
  | .int i, _, _, _, h, r => by
    cases (show _ = V.int i from h)
    obtain ⟨t, rfl⟩ := (show ∃ t, _ = Value.int i t from r)
    exact ⟨_, .int i t, by simp⟩
  | .str x, _, _, _, h, r => by
    cases (show _ = V.str x from h)
    obtain ⟨t, rfl⟩ := (show ∃ t, _ = Value.str x t from r)
    exact ⟨_, .str x t, by simp⟩
  | .tup ds, _, u, p, h, r => by
    obtain ⟨a, vs, rfl, ra, rs⟩ := h
    cases (show u = Value.ref a from r)
    obtain ⟨its, rv, ⟨o, ho, hc, n, hd⟩, _⟩ := I.tuple (sqt_of ra)
    obtain ⟨as, hr, hn⟩ := Reps.reads I c ds vs its p rs rv
    exact ⟨as, .tuple ho hc hd (by simpa using hr), hn⟩
  | .lst ds, _, u, p, h, r => by
    obtain ⟨a, vs, rfl, na, ra, rs⟩ := h
    cases (show u = Value.ref a from r)
    obtain ⟨its, rv, ⟨o, n, ho, hc, _, hd⟩, _⟩ := I.list (SqL.of ra)
    obtain ⟨as, hr, hn⟩ := Reps.reads I c ds vs its p rs rv
    refine ⟨_, .list ho hc hd (by simpa using hr), fun z => ?_⟩
    rcases List.mem_cons.mp z with z | z
    · exact sm_ne I.kIn c ho hc z.symm
    · exact hn z
  | .dct ks ds, _, u, p, h, r => by
    obtain ⟨a, vs, rfl, na, ra, lk, rs⟩ := h
    cases (show u = Value.ref a from r)
    obtain ⟨p1, p2⟩ := Bool.and_eq_true_iff.mp p
    obtain ⟨z, hs, us, kv, o, es, ep, ho, hx, hd, _, hp, _⟩ := dk_of I.hok ra
    obtain ⟨h1, h2⟩ := pairs_reads (h := s.heap) kv lk hp
    obtain ⟨as, hr, hn⟩ := Reps.reads I c ds vs _ p2 rs h2
    obtain ⟨k1, k2⟩ := toPk_keys (of_decide_eq_true p1)
    refine ⟨_, .dict ho hx.1 hd (by rw [k1]; exact h1) (by rw [k2]; exact hr), fun y => ?_⟩
    rcases List.mem_append.mp y with y | y
    · rcases List.mem_cons.mp y with y | y
      · rw [y] at hs
        simp at hs
      · cases y
    · exact hn y
  | .deck, _, _, p, _, _ => by cases p
  | .ty _, _, _, p, _, _ => by cases p
  | .kt _, _, _, p, _, _ => by cases p
  | .ins _ _ _, _, _, p, _, _ => by cases p
theorem Reps.reads (I : Inv X pins σ H s) (c : smB X.K = true) : ∀ (ds : List D) (vs : List V) (us : List Value), plainRs ds = true → Reps X.K Z N H ds vs → Vals vs us → ∃ as, ReadsAll s.heap us (toPs ds) as ∧ sysModules ∉ as
  | [], _, _, _, h, r => by
    cases h
    cases r
    exact ⟨_, .nil, by simp⟩
  | d :: ds, _, _, p, h, r => by
    obtain ⟨v, w, rfl, h1, h2⟩ := h
    obtain ⟨p1, p2⟩ := Bool.and_eq_true_iff.mp p
    cases r with
    | cons r1 r2 =>
      obtain ⟨as, q1, n1⟩ := Rep.reads I c d v _ p1 h1 r1
      obtain ⟨bs, q2, n2⟩ := Reps.reads I c ds w _ p2 h2 r2
      exact ⟨_, .cons q1 q2, fun z => (List.mem_append.mp z).elim n1 n2⟩
end
end
section
variable {X : Cx} {F : FP} {e : Expr} {es : List Expr} {pos : Pos} {Tas : TDA} {Ta Tb : TDE}
/-! ### repr -/
def showR (d : D) : Prop := plainR d = true ∧ (toP d).showable = true ∧ (toP d).depth ≤ 64 ∧ ((toP d).shown).length ≤ sizeLine
def gReprR : GA := fun xs Q => match xs with
  | [d] => showR d ∧ Q (.str (toP d).shown)
  | _ => False
def rReprR (K : PySem.W.Frag) : List V → Hp → VK → Prop := fun vs H Q => ∃ v d Z N, vs = [v] ∧ Rep K Z N H d v ∧ showR d ∧ Q (.str (toP d).shown) H
theorem cr_reprR (c : smB X.K = true) (hg : X.A.guards = some []) (hu : X.A.units + 80 < cLine) : CallR X (.builtin "repr") (rReprR X.K) := by
  intro pins s σ H vs us Q I r h
  obtain ⟨v, d, Z, N, rfl, rp, ⟨h0, h1, h3, h4⟩, q⟩ := h
  obtain ⟨u, rfl, rv⟩ := vals1 r
  obtain ⟨as, rd, na⟩ := Rep.reads I c d v u h0 rp rv
  generalize toP d = y at *
  cases rd with
  | none => exact PySem.P.repr_of_none ⟨.str _, H, I.tok _, ⟨_, rfl⟩, q⟩
  | bool b => exact PySem.P.repr_of_bool ⟨.str _, H, I.tok _, ⟨_, rfl⟩, q⟩
  | int i t => exact PySem.P.repr_of_int (of_decide_eq_true h1) ⟨.str _, H, I.tok _, ⟨_, rfl⟩, q⟩
  | str x t => exact PySem.P.repr_of_str ⟨.str _, H, I.tok _, ⟨_, rfl⟩, q⟩ h4
  | list e1 e2 e3 e4 =>
    exact repr_of_reads' (h₀ := s.heap) (.list e1 e2 e3 e4) h1 (fun _ => na) hg (by omega) (fun _ _ z => z) (fun h' u tk hk => ⟨.str _, H, I.kept (t' := tk) hk, ⟨_, rfl⟩, q⟩) h4
  | tuple e1 e2 e3 e4 =>
    exact repr_of_reads' (h₀ := s.heap) (.tuple e1 e2 e3 e4) h1 (fun _ => na) hg (by omega) (fun _ _ z => z) (fun h' u tk hk => ⟨.str _, H, I.kept (t' := tk) hk, ⟨_, rfl⟩, q⟩) h4
  | dict e1 e2 e3 e4 e5 =>
    exact repr_of_reads' (h₀ := s.heap) (.dict e1 e2 e3 e4 e5) h1 (fun _ => na) hg (by omega) (fun _ _ z => z) (fun h' u tk hk => ⟨.str _, H, I.kept (t' := tk) hk, ⟨_, rfl⟩, q⟩) h4
theorem cd_reprR : CallD F (rReprR F.K) gReprR := ⟨by
  intro N H vs ds Qd Q n r h k
  unfold gReprR at h
  split at h
  · rename_i d
    obtain ⟨v, r, rfl, h1, h2⟩ := r
    cases h2
    exact ⟨v, d, F.Z, N, rfl, h1, h.1, k _ _ _ Ext.refl rep_str h.2⟩
  · exact h.elim⟩
theorem d_reprR {p : Pos} (hK : F.K = X.K) (c : smB X.K = true) (hgd : X.A.guards = some []) (hu : X.A.units + 80 < cLine) (hg : Gl X "repr") (hm : X.mg "repr" = none) (ha : PA X (e :: es) (tDA F Tas))
    (he : starEach (e :: es) X.env = (false, eval e X.env) :: starEach es X.env := by rfl) (hpl : (backTo pos (starEach es X.env)).any (·.1) = false := by rfl) : PE X (.Call (.Name "repr" p) (e :: es) [] pos) (tD F (dCB gReprR Tas)) := by
  have z := cd_reprR (F := F)
  rw [hK] at z
  exact d_callB z (cr_reprR c hgd hu) hg hm (by decide +kernel) ha (by decide) (by decide) he hpl
/-! ### {}, {k: v} -/
theorem d_dict0 : PE X (.Dict [] [] pos) (tD F (dC (.dct [] []))) := PE.imp pe_dnewK (by
  rintro σ H Q ⟨N, env, Qd, f, hT, k⟩
  exact fun p hp => k _ _ (.dct [] []) (f.n.lay hp) ⟨p, [], rfl, f.n.fresh hp, upd_same, rfl, rfl⟩ hT)
def dDict1 (k : Key) (T : TDE) : TDE := fun ξ env Q => T ξ env fun d => Q (.dct [k] [d])
theorem d_dict1 {ke ve : Expr} {ky : Key} (hk : PE X ke (tC (kV ky))) (hv : PE X ve (tD F Ta)) : PE X (.Dict [some ke] [ve] pos) (tD F (dDict1 ky Ta)) := PE.imp (pe_disp (pps_cons hk hv pps_nil) rfl rfl (fun z => by cases z) (by show 1 ≤ 15; decide)) (by
  rintro σ H Q ⟨N, env, Qd, f, hT, k⟩
  intro p hp
  have np := f.n.fresh hp
  have fp := f.with (o := .dK []) kp_dk hp (f.nb hp)
  refine ⟨_, env, _, fp, hT, fun v H1 d e1 r1 q1 => ?_⟩
  have hp1 : H1 p = some (.dK []) := e1.keep p _ (fun z => np (f.n.z p z)) kp_dk upd_same
  refine ⟨hp1, [(ky, v)], rfl, (by show 1 ≤ 15; decide), ?_⟩
  have nz : ¬ InZ F.Z p := fun z => np (f.n.z p z)
  have ee : Ext F.Z H (upd H1 p (.dK (mergeK [] [(ky, v)]))) := by
    have e0 := (f.n.lay (o := .dK []) hp).trans e1
    refine ⟨fun q o n kp h => ?_, fun dk => ⟨fun a l ez => ?_, fun q hq => tab_upd hp1 kp_dk (fun _ h => by cases h) ((e0.deck dk).2 q hq)⟩⟩
    · rw [upd_ne (ne_of_none h hp)]
      exact e0.keep q o n kp h
    · obtain ⟨xs, m, c, k1, k2, k3⟩ := (e0.deck dk).1 a l ez
      exact ⟨xs, m, c, by rw [upd_ne (fun z => nz (by rw [← z]; exact ⟨a, l, ez, .inl rfl⟩))]; exact k1, by rw [upd_ne (fun z => nz (by rw [← z]; exact ⟨a, l, ez, .inr rfl⟩))]; exact k2, k3⟩
  refine k _ _ (.dct [ky] [d]) ee ⟨p, [v], rfl, np, ?_, rfl, v, [], rfl, ?_, rfl⟩ q1
  · rw [upd_same]
    rfl
  · refine Rep.mono (fun q o n kp h => ⟨?_, fun z => n (.inl z)⟩) d v r1
    rw [upd_ne (fun z => n (.inr z))]
    exact h)
/-! ### x[::-1] -/
section
variable {prog : Program} {w : World} {A : Around} {E : Value → Shared → Prop} {s : Shared}
theorem adjust_rev (n : Nat) : Builtin.Slice.sliceAdjust none none (-1) (n : Int) = ((n : Int) - 1, -1) := by
  unfold Builtin.Slice.sliceAdjust
  rfl
theorem places_rev (n : Nat) : Builtin.Slice.slicePlaces ((n : Int) - 1) (-1) (-1) = n := by
  unfold Builtin.Slice.slicePlaces
  rw [if_neg (by decide), show (- -1 : Int) = 1 by decide, Int.ediv_one]
  split <;> omega
theorem applied_rev {sl : Addr} {u : Tok} {n : Nat} {Q : Int × Int × Nat → Shared → Prop} (hs : s.heap.IsSliceOf sl .none .none (.int (-1) u)) (h : Q ((n : Int) - 1, -1, n) s) : wpAny (model prog w) A (Builtin.Slice.sliceApplied (.ref sl) (pure (n : Int))) Q E s := by
  obtain ⟨os, hos, hcs, hds⟩ := id hs
  unfold Builtin.Slice.sliceApplied Builtin.Slice.sliceFields
  refine wpAny_bind (wpAny_bind (wpAny_field hos hds (x := .none) rfl (wpAny_bind (wpAny_field hos hds (x := .none) rfl (wpAny_bind (wpAny_field hos hds (x := .int (-1) u) rfl (wpAny_pure ?_)))))))
  refine wpAny_bind (slicePart_int ?_)
  show wpAny _ _ (if ((-1 : Int) == 0) = true then _ else _) _ _ s
  rw [if_neg (by decide)]
  refine wpAny_bind (slicePart_none (wpAny_bind (slicePart_none (wpAny_bind (wpAny_pure ?_)))))
  show wpAny _ _ (match Builtin.Slice.sliceAdjust none none (-1) (n : Int) with | (lo, hi) => pure (lo, (-1 : Int), Builtin.Slice.slicePlaces lo hi (-1))) _ _ s
  rw [adjust_rev]
  show wpAny _ _ (pure ((n : Int) - 1, (-1 : Int), Builtin.Slice.slicePlaces ((n : Int) - 1) (-1) (-1))) _ _ s
  rw [places_rev]
  exact wpAny_pure h
theorem filterMap_on {α β : Type} {f g : α → Option β} : ∀ {l : List α}, (∀ m ∈ l, f m = g m) → l.filterMap f = l.filterMap g
  | [], _ => rfl
  | a :: l, h => by
    rw [List.filterMap_cons, List.filterMap_cons, h a List.mem_cons_self, filterMap_on fun m hm => h m (List.mem_cons_of_mem _ hm)]
theorem pick_rev (xs : Array Value) : ((List.range xs.size).filterMap fun (m : Nat) => xs[((xs.size : Int) - 1 + (m : Int) * (-1)).toNat]?).toArray = xs.toList.reverse.toArray := by
  congr 1
  have e : ((List.range xs.size).filterMap fun (m : Nat) => xs[((xs.size : Int) - 1 + (m : Int) * (-1)).toNat]?) = ((List.range xs.size).map fun m => xs.size - 1 - m).filterMap fun m => xs[m]? := by
    rw [List.filterMap_map]
    refine filterMap_on fun m hm => ?_
    have := List.mem_range.mp hm
    have e2 : ((xs.size : Int) - 1 + (m : Int) * (-1)).toNat = xs.size - 1 - m := by omega
    rw [e2]
    rfl
  rw [e, PySem.W.krv_range, List.filterMap_reverse, PySem.W.krv_all]
theorem getItem_tup_rev {t sl : Addr} {items : Array Value} {u : Tok} {Q : Value → Shared → Prop} (ht : IsTup s.heap t items) (hs : s.heap.IsSliceOf sl .none .none (.int (-1) u))
    (h : Q (.ref s.heap.objs.size) { s with heap := s.heap.push { cls := .type "tuple", data := .seq items.toList.reverse.toArray } }) (hsz : items.size ≤ sizeLine) : wpAny (model prog w) A (getItem (.ref t) (.ref sl)) Q E s := by
  have fits : sizeOk (.seq items.toList.reverse.toArray) := by
    show items.toList.reverse.toArray.size ≤ sizeLine
    simpa using hsz
  have hTs : s.TypeIs (.ref sl) "slice" := let ⟨os, hos, hcs, _⟩ := hs; ⟨os, hos, hcs⟩
  unfold getItem
  try with_reducible refine wpAny_holding ?_
  first | refine wpAny_bind (wpAny_pure ?_) | skip
  refine wpAny_bind (wpAny_sequenceKey ht.typeIs (by decide) ?_)
  refine wpAny_bind (wpAny_callSpecial?_slot (name := Str.ofString "__getitem__") ht.typeIs PyProof.Rows.slot_tuple_getitem (wpAny_call_entry PyProof.Rows.slot_tuple_getitem ht.typeIs entry_tuple_getitem ?_ (args_tuple_getitem _ _)))
  show wpAny _ _ (Builtin.Tuple.tupleItemsOf (.ref t) >>= _) _ _ s
  refine wpAny_bind (tupleItemsOf_ ht (wpAny_bind (wpAny_typeOf hTs ?_)))
  rw [if_pos (by decide)]
  refine wpAny_bind (applied_rev hs ?_)
  have no : ¬ ((((items.size : Int) - 1 == 0) && ((-1 : Int) == 1) && (items.size == items.size)) = true) := by
    intro q
    rw [Bool.and_eq_true, Bool.and_eq_true] at q
    exact absurd q.1.2 (by decide)
  show wpAny _ _ (if (((items.size : Int) - 1 == 0) && ((-1 : Int) == 1) && (items.size == items.size)) = true then _ else _) _ _ s
  rw [if_neg no, pick_rev]
  first
    | exact wpAny_bind (m := Builtin.Tuple.tupleExact _) (wpAny_newObj_type (wpAny_pure ⟨_, rfl, wpAny_pure h⟩) fits)
    | exact wpAny_bind (m := Builtin.Tuple.tupleExact _) (wpAny_newObj_type (wpAny_bind (wpAny_pure (wpAny_pure ⟨_, rfl, wpAny_pure h⟩))) fits)
    | exact wpAny_bind (wpAny_bind (m := Builtin.Tuple.tupleExact _) (wpAny_newObj_type (wpAny_pure (wpAny_pure ⟨_, rfl, wpAny_pure h⟩)) fits))
    | exact wpAny_bind (wpAny_bind (m := Builtin.Tuple.tupleExact _) (wpAny_newObj_type (wpAny_pure ⟨_, rfl, wpAny_pure h⟩) fits))
end
def tRevT (K : PySem.W.Frag) (te : TE) : TE := fun σ H Q => te σ H fun x H1 => ∃ a xs, x = .ref a ∧ SqT K H1 a xs ∧ ∀ p, H1 p = none → Q (.ref p) (upd H1 p (.tup xs.reverse))
theorem pe_revT {te : TE} {k : Nat} {p1 p2 p3 : Pos} (he : PE X e te) : PE X (.Subscript e (.Slice none none (some (.UnaryOp .USub (.Constant (.int 1) k p1) p2)) p3) pos) (tRevT X.K te) := by
  refine ⟨fun pins s σ H Q I h => ?_⟩
  refine Subscript_ (thn (he.run pins s σ H _ I h) fun v s1 ⟨x, H1, I1, r1, a, xs, ex, hx, q⟩ => ?_)
  subst ex
  cases r1
  have hst : PO X (some (.UnaryOp .USub (.Constant (.int 1) k p1) p2)) (tPart (tUn (rU fun i => .int (-i)) (tC (.int 1)))) := po_some (pe_un un_neg pe_int)
  refine wpAny_Slice (thn (po_none.run pins s1 σ H1 (fun o H2 => o = none ∧ H2 = H1) I1 ⟨rfl, rfl⟩) fun vl s2 ⟨l, H2, I2, pl, el, e2⟩ => thn (po_none.run pins s2 σ H2 (fun o H3 => o = none ∧ H3 = H2) I2 ⟨rfl, rfl⟩) fun vu s3 ⟨u, H3, I3, pu, eu, e3⟩ =>
    thn (hst.run pins s3 σ H3 (fun o H4 => o = some (-1) ∧ H4 = H3) I3 ⟨1, rfl, -1, rfl, rfl, rfl⟩) fun vs s4 ⟨o, H4, I4, ps, eo, e4⟩ => ?_)
  subst el e2 eu e3 eo e4
  cases pl
  cases pu
  obtain ⟨t, rfl⟩ : ∃ t, vs = Value.int (-1) t := by
    cases ps with
    | int i t => exact ⟨t, rfl⟩
  have I5 : L2.Inv X pins σ H4 { s4 with heap := s4.heap.push { cls := .type "slice", data := .fields #[.none, .none, .int (-1) t] } } := I4.kept (t' := s4.toks) fun b ob q => Heap.get?_push_of_some _ q
  obtain ⟨its, r, ht, hz⟩ := I5.tuple hx
  have hlen := r.length
  show wpAny (model X.prog X.w) X.A (subscriptTail e (.Slice none none (some (.UnaryOp .USub (.Constant (.int 1) k p1) p2)) p3) (.ref a) (.ref s4.heap.objs.size)) (EP X pins σ Q) X.xe { s4 with heap := s4.heap.push { cls := .type "slice", data := .fields #[.none, .none, .int (-1) t] } }
  refine tail_any (ops := [.ref a, .ref s4.heap.objs.size]) ht.typeIs (PyProof.Rows.slot_tuple_getitem.lookup) ?_ (by with_unfolding_all rfl)
  refine getItem_tup_rev ht (Heap.IsSliceOf.new _ _ _ _) ?_ (by rw [List.size_toArray]; omega)
  refine ⟨.ref _, _, I5.laid (t' := s4.toks) (o := .tup xs.reverse) (fun b ob q => Heap.get?_push_of_some _ q) (Nat.le_refl _) ?_, rfl, q _ (I5.hok.fresh (Nat.le_refl _))⟩
  exact ⟨by rw [List.length_reverse]; exact hz, its.reverse, r.reverse, _, Heap.get?_push_size _ rfl, rfl, 0, by simp⟩
def gRev : G1 := fun x Q => match x with
  | .tup ds => Q (.tup ds.reverse)
  | _ => False
theorem Reps.rev {K : PySem.W.Frag} {Z : Zn} {N : Addr → Prop} {H : Hp} : ∀ {ds : List D} {vs : List V}, Reps K Z N H ds vs → Reps K Z N H ds.reverse vs.reverse
  | [], _, h => by cases h; rfl
  | d :: ds, _, ⟨v, r, e, h1, h2⟩ => by
    subst e
    rw [List.reverse_cons, List.reverse_cons]
    exact (Reps.rev h2).snoc h1
/-- t[::-1] -/
theorem d_rev {k : Nat} {p1 p2 p3 : Pos} (hK : F.K = X.K) (he : PE X e (tD F Ta)) : PE X (.Subscript e (.Slice none none (some (.UnaryOp .USub (.Constant (.int 1) k p1) p2)) p3) pos) (tD F (dUn gRev Ta)) := PE.imp (pe_revT he) (by
  rintro σ H Q ⟨N, env, Qd, f, hT, kk⟩
  refine ⟨N, env, _, f, hT, fun x H1 d e1 r1 q1 => ?_⟩
  cases d <;> first | exact q1.elim | skip
  rename_i ds
  obtain ⟨a, vs, rfl, ra, rs⟩ := r1
  have n1 := (f.ext' e1).n
  exact ⟨a, vs, rfl, by rw [← hK]; exact sqt_of ra, fun p hp => kk _ _ (.tup ds.reverse) (e1.trans (n1.lay hp)) (rep_newT n1 hp rs.rev) q1⟩)
end
end DL
set_option Elab.async false
set_option linter.all false
set_option maxRecDepth 100000
set_option maxHeartbeats 2000000
/-! a lambda handed to a def that calls it, over data -/
namespace DL
open PySem PySem.Spec L2 LamX
open PyProof.Rows hiding St
theorem PE.exP {X : Cx} {e : Expr} {α : Sort _} {t : α → TE} (h : ∀ i, PE X e (t i)) : PE X e (fun σ H Q => ∃ i, t i σ H Q) := ⟨fun pins s σ H Q I ⟨i, q⟩ => (h i).run pins s σ H Q I q⟩
theorem PE.andP {X : Cx} {e : Expr} {p : Prop} {t : TE} (h : p → PE X e t) : PE X e (fun σ H Q => p ∧ t σ H Q) := ⟨fun pins s σ H Q I ⟨i, q⟩ => (h i).run pins s σ H Q I q⟩
theorem takes_lam {X : Cx} {A : Around} {outer : List Env} {s : Shared} {H : Hp} {E : XK} {scope : Scope} {f c' : Addr} : Takes (lamCx X A outer s H E scope f c') (fun c od _ H' => E c od H') := takes_of rfl rfl rfl rfl
/-- the maker's names, seen from the lambda: no list of the maker's own -/
def hide (env : SE) : SE := env.map fun s => match s with
  | .own _ => .un
  | s => s
theorem hide_get {env : SE} {i : Nat} {s : Slot} (h : (hide env)[i]? = some s) : s = .un ∨ (env[i]? = some s ∧ ∀ xs, s ≠ .own xs) := by
  unfold hide at h
  rw [List.getElem?_map] at h
  cases q : env[i]? with
  | none => rw [q] at h; cases h
  | some u =>
    rw [q] at h
    cases u with
    | own xs => cases h; exact .inl rfl
    | un => cases h; exact .inl rfl
    | d x => cases h; exact .inr ⟨rfl, fun xs z => by cases z⟩
    | raw v => cases h; exact .inr ⟨rfl, fun xs z => by cases z⟩
def dHole (v : V) (Tl : TDE) (env : SE) : TDE := fun ξ env' Q => env'[0]? = some (.raw v) ∧ Tl (fun x _ => ξ x env') (hide env) Q
def dLam (n : Nat) (Tt : TDE → TDS) (Tl : TDE) : TDE := fun _ env Q => ∀ v, Tt (dHole v Tl env) (fun _ _ => False) { nx := fun _ => Q .non, rt := Q } (.raw v :: List.replicate (n - 1) .un)
section
variable {X : Cx} {pins : List (Addr × Obj)} {σ : L2.St} {H : Hp} {s : Shared}
/-- the call of what was handed over -/
theorem pe_hole {Eg : XK} {Ng : List Str} {qg : Str} {sg : Scope} {g f c' : Addr} {cdg pm ctv : Value} {params : Arguments} {body : Expr} {scope : Scope} {k i : Nat} {a : Str} {pn : List (Addr × Obj)} {xe : Value → Shared → Prop} {W : WX} {tb : XK → TE} {p1 p2 : Pos} {CXg : CXT}
    (J : Inv X pins σ H s) (L : LamS X.env.scope scope) (ob : s.heap.get? f = some (PySem.W.kla_obj "<lambda>" (X.env.qual ++ "<lambda>") params body scope (cloFrom X.env.cells scope.names []) pm c' ctv)) (fr1 : H f = none) (fr2 : f ∉ frs X.stack)
    (bnd : bindArgs (PySem.W.kla_fn "<lambda>" (X.env.qual ++ "<lambda>") params body scope (cloFrom X.env.cells scope.names []) pm (.ref c') ctv) ⟨[], []⟩ = pure []) (room : RoomG (k + 1) (X.A.deeper (envOfC qg sg s.heap.objs.size g cdg)))
    (run : ∀ (A : Around) (outer : List Env) (s : Shared) (H : Hp) (E : XK), RoomG k (A.deeper (lamEnv X scope s.heap.objs.size f c')) → PE (lamCx X A outer s H E scope f c') body (tb E))
    (tk : Takes ((cxOf CXg X.prog X.w X.K X.mg X.base Ng qg sg g cdg X.A X.stack s H Eg).tr pn xe) W) (at_ : Ng[i]? = some a) (vis : Vis sg a) (nd : (a == ("__debug__" : Str)) = false) (nc : (a == ("__classdict__" : Str)) = false) :
    PE ((cxOf CXg X.prog X.w X.K X.mg X.base Ng qg sg g cdg X.A X.stack s H Eg).tr pn xe) (.Call (.Name a p1) [] [] p2)
      (fun σZ HZ Q => σZ[i]? = some (some (.ref f)) ∧ HZ c' = some (CodeO c' (X.env.qual ++ "<lambda>")) ∧ tb (WE W σZ) σ HZ Q) := by
  constructor
  rintro pinsZ sZ σZ HZ Q IZ ⟨atf, code, wish⟩
  refine wpAny_Call_Name_kw (thn ((pe_var (pos := p1) (i := i) at_ vis nd nc).run pinsZ sZ σZ HZ (fun v H1 => v = .ref f ∧ H1 = HZ) IZ ⟨.ref f, atf, rfl, rfl⟩) ?_)
  rintro u s1 ⟨v, H1, I1, r1, rfl, rfl⟩
  obtain rfl : u = Value.ref f := r1
  have still := I1.base.keep f _ ob fr1 fr2 (by intro z; cases z)
  refine PySem.W.callWith_F0 ⟨_, _, _, _, still⟩ ?_
  have grown : Un (frs X.stack) [] H H1 s.heap s1.heap := I1.base
  obtain ⟨⟨oc, vs, t, co1, co2, co3⟩, _, _⟩ := I1.hok c' _ code
  have ran : codeAny (model X.prog X.w) (X.A.deeper (envOfC qg sg s.heap.objs.size g cdg)) (.call (.ref f) ⟨[], []⟩) (CR (L2.CX X.prog X.w) (envOfC qg sg s.heap.objs.size g cdg :: X.stack) X.prog X.w H1 s1 Q (WE W σZ)) s1 := by
    refine PySem.W.kla_callFunE room.r.depth still rfl L.co L.gen rfl ⟨c', oc, vs, t, rfl, co1, co2, co3⟩ ?_
    rw [bnd]
    refine wpAny_pure (wpAny_newFunctionEnv (fun y hy => (L.own y hy).2) (by intro y hy; cases hy) ?_ L.kind)
    intro h₁ hns more
    refine ⟨I1.nolimit.fresh _ more, ?_⟩
    show codeAny _ _ (.expr body (lamEnv X scope s1.heap.objs.size f c')) _ _
    have kept : ∀ b o, s1.heap.get? b = some o → h₁.get? b = some o := fun b o e => more.extBut b o (Nat.ne_of_lt (Heap.lt_size e)) (Heap.get?_push_of_some _ e)
    have J2 : Inv (lamCx X (X.A.deeper (envOfC qg sg s.heap.objs.size g cdg)) (envOfC qg sg s.heap.objs.size g cdg :: X.stack) s1 H1 (WE W σZ) scope f c') [] σ H1 { s1 with heap := h₁, toks := s1.toks + 0 } :=
      lam_start2 J L I1.env0 room.r.hd grown hns kept
    refine PySem.W.kla_codeExpr (wpAny_mono ((run _ _ s1 H1 (WE W σZ) ⟨room.r.deeper _, guards_deeper room.g⟩).run [] _ _ H1 Q J2 wish) ?_ fun e s' z => z)
    rintro v s' ⟨v', H', J', rv, q⟩
    exact ⟨v', H', J'.os, J'.bare, J'.base, J'.hok, rv, q⟩
  have pas := passAt tk σZ
  refine wpAny_call (codeAny_mono ran ?_)
  rintro (e | fl) s' z
  · exact pas pinsZ H1 s1 e s' I1 z
  · cases fl with
    | ret u => exact I1.after z
    | next => exact z
    | brk => exact z
    | cont => exact z
end
section
variable {X : Cx} {F : FP}
theorem codeO_kp {c : Addr} {q : Str} : Kp (CodeO c q) := fun ps => codeO_ne ps
/-- f(lambda: body), where f calls it and lets nothing out -/
theorem d_lam {x a : Str} {g c P : Addr} {k : Nat} {pg : Arguments} {bg : List Stmt} {sg : Scope} {fdg : FuncData} {Ng : List Str} {params : Arguments} {body : Expr} {scope : Scope} {Tl : TDE} {Tt : TDE → TDS} {p lpos pos : Pos}
    (hK : F.K = X.K) (glo : Gl X x) (hm : X.mg x = some (.ref g)) (hk : PySem.W.keepIn X.K (.ref g) = true) (Fg : FunD X.K x x pg bg sg [] [] g fdg) (bb : Binds X.K fdg [a] []) (Sg : FnScope Ng [a] sg) (at_ : Ng[0]? = some a) (vis : Vis sg a)
    (told : ∀ (cdv : Value) (s : Shared) (H : Hp) (F2 : FP) (Th : TDE), F2.K = X.K → F2.ex = (fun _ _ => False) → RoomG (k + 1) (X.A.deeper (envOfC x sg s.heap.objs.size g cdv)) →
      (∀ (W : WX) (pn : List (Addr × Obj)) (xe : Value → Shared → Prop) (F' : FP) (p1 p2 : Pos), Takes ((cxOf CX0 X.prog X.w X.K X.mg X.base Ng x sg g cdv X.A X.stack s H E0).tr pn xe) W → Sub F2 F' → WOk F' W →
        PE ((cxOf CX0 X.prog X.w X.K X.mg X.base Ng x sg g cdv X.A X.stack s H E0).tr pn xe) (.Call (.Name a p1) [] [] p2) (tD F' Th)) →
      PSs (cxOf CX0 X.prog X.w X.K X.mg X.base Ng x sg g cdv X.A X.stack s H E0).nox bg (sD F2 (Tt Th)))
    (TB : TabB X.base X.mg c P) (code : X.env.code = .ref c) (mem : (P, X.env.qual ++ "<lambda>") ∈ tabsOf X.K) (uni : ∀ p ∈ tabsOf X.K, p.1 = P → p.2 = X.env.qual ++ "<lambda>") (room : RoomG (k + 2) X.A) (L : LamS X.env.scope scope) (defs : defaultsOf params X.env = ([], []))
    (bnd : ∀ (q : Str) (cl : List (Str × Addr)) (pm cv ctv : Value), bindArgs (PySem.W.kla_fn "<lambda>" q params body scope cl pm cv ctv) ⟨[], []⟩ = pure [])
    (run : ∀ (A : Around) (outer : List Env) (s : Shared) (H : Hp) (E : XK) (f c' : Addr) (F' : FP), F'.K = X.K → WOk F' (fun c od _ H' => E c od H') → RoomG k (A.deeper (lamEnv X scope s.heap.objs.size f c')) → PE (lamCx X A outer s H E scope f c') body (tD F' Tl))
    (ndx : (x == ("__debug__" : Str)) = false := by decide) (nd : (a == ("__debug__" : Str)) = false := by decide) (nc : (a == ("__classdict__" : Str)) = false := by decide) :
    PE X (.Call (.Name x p) [.Lambda params body scope lpos] [] pos) (tD F (dLam Ng.length Tt Tl)) := by
  constructor
  rintro pins s σ H Q I ⟨N, env, Qd, fk, hT, kk⟩
  refine wpAny_Call_Name_kw (ld_glob I glo hm (PySem.W.callWith_K (h₀ := X.base) I.ok.mod.kin hk ?_ (by rfl) (by rfl)) ndx)
  show wpAny _ _ (spliced ((false, eval (.Lambda params body scope lpos) X.env) :: backTo pos (starEach [] X.env))) _ _ s
  have tabs : Tabs (tabsOf X.K) H := by
    have z := fk.n.deck.2
    rwa [fk.n.tb, hK] at z
  refine Calls.spliced_cons (lam_make2 I TB code mem uni tabs defs (L.has I.ok) ?_)
  intro f c' pm' ctv H1 s' I1 eN T1 ob fr1 fr2 hco
  refine Calls.spliced_nil ⟨I1.kIn, ?_⟩
  have e : Ext F.Z H H1 := ⟨fun q o _ kp h => eN q o h kp, fun dk => ⟨fun b l z => by
    obtain ⟨xs, m, n, h1, h2, h3⟩ := dk.1 b l z
    exact ⟨xs, m, n, eN _ _ h1 kp_dk, eN _ _ h2 kp_lst, h3⟩, by rw [fk.n.tb, hK]; exact T1⟩⟩
  have f1 := fk.ext' e
  obtain ⟨oc, od, dV, kV, doc, pm, an, cdv, ct, osl, efd, lk, hcd, _, _⟩ := Fg.ex
  subst efd
  have ran : codeAny (model X.prog X.w) X.A (.call (.ref g) ⟨[.ref f], []⟩) (CR CX0 X.stack X.prog X.w H1 s' Q E0) s' := by
    refine run_ofS (N := Ng) (ps := [a]) (us := [.ref f]) (vs := [.ref f]) lk hcd Sg room.r I1.env0 (bb s' [.ref f] I1.kIn rfl) (.cons rfl .nil) rfl fun r2 => ?_
    have room2 : RoomG (k + 1) (X.A.deeper (envOfC x sg s'.heap.objs.size g cdv)) := ⟨r2, guards_deeper room.g⟩
    refine ⟨_, (told cdv s' H1 ⟨F.K, F.Z, N, H1, fun _ _ => False, N, H1⟩ (dHole (.ref f) Tl env) hK rfl room2 ?_).nox, N, _, _, ⟨⟨f1.n.deck, .refl, fun _ z => z, f1.n.z, f1.n.all, fun _ h n => (n h).elim, .refl, f1.n.tb⟩, ?_, ?_, ?_⟩, hT (.ref f), ?_⟩
    · intro W pn xe F' p1 p2 tk sub wo
      have hk' : F'.K = X.K := sub.k.trans hK
      refine PE.imp (pe_hole (i := 0) (tb := fun E σ H Q => ∃ Fe : FP, (Fe.K = X.K ∧ WOk Fe (fun c od _ H' => E c od H')) ∧ tD Fe Tl σ H Q) I1 L ob fr1 fr2 (bnd _ _ _ _ _) room2 (fun A outer s H E r3 => PE.exP fun Fe => PE.andP fun z => run A outer s H E f c' Fe z.1 z.2 r3) tk at_ vis nd nc) ?_
      rintro σZ HZ Q2 ⟨N', env', Qd', f', ⟨h0, hl⟩, k'⟩
      refine ⟨f'.slot 0 _ h0, ?_, ⟨F'.K, F'.Z, N', HZ, fun x _ => F'.ex x env', N', HZ⟩, ⟨hk', ?_⟩, N', hide env, Qd', ⟨⟨f'.n.deck, .refl, fun _ z => z, f'.n.z, f'.n.all, fun _ h n => (n h).elim, .refl, f'.n.tb⟩, ?_, ?_, ?_⟩, hl, k'⟩
      · have z1 := f'.n.ext
        rw [sub.h, sub.z] at z1
        refine z1.keep c' _ ?_ codeO_kp hco
        rintro ⟨b, l, z, q⟩
        obtain ⟨xs, m, n, h1, h2, h3⟩ := f1.n.deck.1 b l z
        unfold CodeO at hco
        rcases q with q | q <;> rw [q] at hco
        · rw [h1] at hco; cases hco
        · rw [h2] at hco; cases hco
      · intro N3 σ3 H3 env3 y cl od f3 xr hx
        exact wo N' σZ H3 env' y cl od (f'.ext' f3.n.ext) (xr.less f3.n.sub) hx
      · rw [show (hide env).length = env.length from List.length_map _]
        exact fk.len
      · intro i sl hs
        rcases hide_get hs with rfl | ⟨h4, h5⟩
        · trivial
        · have z := f1.slot i sl h4
          have ev : Evo N H1 N' HZ := Evo.trans sub.g f'.n.gr
          cases sl with
          | un => trivial
          | own xs => exact (h5 xs rfl).elim
          | raw v => exact z
          | d y =>
            obtain ⟨v, z1, z2⟩ := z
            refine ⟨v, z1, ?_⟩
            show Rep F'.K F'.Z N' HZ y v
            rw [sub.k, sub.z]
            exact Rep.mono ev y v z2
      · intro i j q xs ys _ h4
        rcases hide_get h4 with z | ⟨_, z⟩
        · cases z
        · exact (z xs rfl).elim
    · obtain ⟨n, hn⟩ : ∃ n, Ng.length = n + 1 := ⟨Ng.length - 1, by have := (List.getElem?_eq_some_iff.mp at_).1; omega⟩
      simp [L2.start, hn]
    · intro i sl hs
      match i, hs with
      | 0, hs =>
        cases hs
        rfl
      | i + 1, hs =>
        have z : sl = .un := (List.mem_replicate.mp (List.mem_of_getElem? (show (List.replicate (Ng.length - 1) Slot.un)[i]? = some sl from hs))).2
        subst z
        trivial
    · intro i j q xs ys _ h4
      match i, h4 with
      | 0, h4 => cases h4
      | i + 1, h4 => cases (List.mem_replicate.mp (List.mem_of_getElem? (show (List.replicate (Ng.length - 1) Slot.un)[i]? = some (.own xs) from h4))).2
    · exact ⟨fun N' σ' H' env' f' _ q => kk _ _ _ (e.trans f'.n.ext) rep_non q, fun v H' d e' r' q => kk v H' d (e.trans e') r' q, fun _ _ _ _ _ _ q => q.elim, fun _ _ _ _ _ _ q => q.elim⟩
  refine wpAny_call (codeAny_mono ran ?_)
  rintro (er | fl) s2 z
  · exact (show False from z).elim
  · cases fl with
    | ret u => exact I1.after z
    | next => exact z
    | brk => exact z
    | cont => exact z
end
section
variable {P : Program} {w : World} {K : PySem.W.Frag} {mg : Str → Option Value} {base : Heap} {k : Nat} {f : Addr} {fd : FuncData} {N ps : List Str}
/-- a def that lets nothing out and makes lambdas: its code object is told -/
theorem fng_dataC {x qual n : Str} {params : Arguments} {body : List Stmt} {scope : Scope} {dvs : List V} {kws : List (Str × V)} {T : TDS} (Fd : FunD K x qual params body scope dvs kws f fd) (S : FnScope N ps scope) (ef : f = He.fAd K (n, none))
    (hb : ∀ (cdv : Value) (A : Around) (outer : List Env) (s : Shared) (H : Hp) (E : XK) (F : FP), F.K = K → F.ex = (fun _ _ => False) → RoomG k (A.deeper (envOfC qual scope s.heap.objs.size f cdv)) → cdv = .ref (He.cT K (n, none)).1 →
      PSs (cxOf CX0 P w K mg base N qual scope f cdv A outer s H E).nox body (sD F T)) : FnG P w K mg base CX0 (k + 1) f fd ps (spD K ps.length fun _ ds Q => tfOf N.length T (fun _ => False) ds Q) := by
  refine fng_ofC Fd S ?_ ?_
  · rintro vs H Q E ⟨Z, B, ds, Qd, Ed, b, r, hl, _⟩
    rw [← r.length, hl]
  rintro cdv A outer s H vs Q E room ⟨hcd, hcv⟩ ⟨Z, B, ds, Qd, Ed, b, r, hl, hT, hq, _⟩
  have key : cdv = .ref (He.cT K (n, none)).1 := by
    obtain ⟨c, rfl⟩ := He.codeIn_ref hcd
    obtain ⟨oc, od, dV, kV, doc, pm, an, cdv', ct, osl, efd, lk, _, _, _⟩ := Fd.ex
    subst ef
    rw [show (He.cT K (n, none)).1 = He.codeOf K (n, none) from rfl, He.codeOf_eq (p := (n, none)) lk hcv]
  refine ⟨_, (hb cdv A outer s H E ⟨K, Z, B, H, fun _ _ => False, B, H⟩ rfl rfl room key).nox, ?_⟩
  exact ⟨B, _, _, start_ok b r, hT, ⟨fun N' σ' H' env' f' _ q => hq _ _ _ f'.n.ext rep_non q, fun v H' d e r' q => hq v H' d e r' q, fun _ _ _ _ _ _ q => q.elim, fun _ _ _ _ _ _ q => q.elim⟩⟩
end
section
variable {X : Cx} {F : FP} {a e elt iter : Expr} {ifs : List Expr} {scope : Scope} {own : List (Str × Nat)} {pos p pos' spos py : Pos} {tg : Expr} {Ta : TDE} {Tas : TDA} {tt : TDT} {te : TDE} {i j : Nat} {y : Str}
theorem setLc_imp {T : TDE} {ta : TE} (h : ∀ σ H Q, tD F T σ H Q → ta σ H Q) : ∀ De σ H, sD F (dAsg T (dgName i)) De σ H → tAsg ta (gName i) De σ H := by
  rintro De σ H ⟨N, env, Dd, f, hT, ok⟩
  exact h _ _ _ ⟨N, env, _, f, hT, fun v H' d e1 r q => ok.nx _ _ _ _ ((f.ext' e1).set i r) (.of f.n e1) q⟩
/-- y = [.. for .. in range(n)], on one line, y no cell -/
theorem ds_setLcR (hK : F.K = X.K) (hc : X.calm = true) (hN : X.N.Nodup) (hgl : Gl X "range") (hm : X.mg "range" = none) (ha : PA X [a] (tDA F Tas)) (ok : BlkOk X.N X.env.scope scope own) (hv : own.map (·.2) = [j]) (hy : X.N[i]? = some y) (hyl : X.env.scope.names.lookup y = some .local)
    (hsw : swapsWith (.ListComp elt [⟨tg, .Call (.Name "range" p) [a] [] pos', ifs, 0⟩] scope pos) (some (.Name y py)) spos.line X.env = pure true)
    (hg : ∀ (s : Shared) (H : Hp) (C : Addr) (cl : List (Str × Addr)) (fp : List Addr), PG (X.blk s H scope (compEnvC scope cl C X.env) fp) tg (gName j)) (ht : ∀ (s : Shared) (H : Hp) (C : Addr) (cl : List (Str × Addr)) (fp : List Addr), PTs (X.blk s H scope (compEnvC scope cl C X.env) fp) ifs (tDT F.calm tt))
    (he : ∀ (s : Shared) (H : Hp) (C : Addr) (cl : List (Str × Addr)) (fp : List Addr), PE (X.blk s H scope (compEnvC scope cl C X.env) fp) elt (tD F.calm te)) (hsa : starEach [a] X.env = [(false, eval a X.env)] := by rfl) (hs : ∀ x, foldedSetIterable (.Call (.Name "range" p) [a] [] pos') X.env x = pure x := by intro _; rfl) :
    PS X (.Assign [.Name y py] (.ListComp elt [⟨tg, .Call (.Name "range" p) [a] [] pos', ifs, 0⟩] scope pos) spos) (sD F (dAsg (dLcR Tas j tt te) (dgName i))) := by
  have z := ps_setLc hc hN hy hyl hsw (pi_range1 hgl hm ha hsa) ok hg ht he hs
  rw [hv] at z
  exact PS.imp z (setLc_imp lcR_imp)
theorem ds_setLcL (hK : F.K = X.K) (hc : X.calm = true) (hN : X.N.Nodup) (hi : PE X iter (tD F Ta)) (ok : BlkOk X.N X.env.scope scope own) (hv : own.map (·.2) = [j]) (hy : X.N[i]? = some y) (hyl : X.env.scope.names.lookup y = some .local)
    (hsw : swapsWith (.ListComp elt [⟨tg, iter, ifs, 0⟩] scope pos) (some (.Name y py)) spos.line X.env = pure true)
    (hg : ∀ (s : Shared) (H : Hp) (C : Addr) (cl : List (Str × Addr)) (fp : List Addr), PG (X.blk s H scope (compEnvC scope cl C X.env) fp) tg (gName j)) (ht : ∀ (s : Shared) (H : Hp) (C : Addr) (cl : List (Str × Addr)) (fp : List Addr), PTs (X.blk s H scope (compEnvC scope cl C X.env) fp) ifs (tDT F.calm tt))
    (he : ∀ (s : Shared) (H : Hp) (C : Addr) (cl : List (Str × Addr)) (fp : List Addr), PE (X.blk s H scope (compEnvC scope cl C X.env) fp) elt (tD F.calm te)) (hs : ∀ x, foldedSetIterable iter X.env x = pure x := by intro _; rfl) :
    PS X (.Assign [.Name y py] (.ListComp elt [⟨tg, iter, ifs, 0⟩] scope pos) spos) (sD F (dAsg (dLc Ta j tt te) (dgName i))) := by
  have z := ps_setLc hc hN hy hyl hsw (pi_list hi) ok hg ht he hs
  rw [hv] at z
  exact PS.imp z (setLc_imp (by rw [← hK]; exact lc_imp))
theorem ds_setLcT (hK : F.K = X.K) (hc : X.calm = true) (hN : X.N.Nodup) (hi : PE X iter (tD F Ta)) (ok : BlkOk X.N X.env.scope scope own) (hv : own.map (·.2) = [j]) (hy : X.N[i]? = some y) (hyl : X.env.scope.names.lookup y = some .local)
    (hsw : swapsWith (.ListComp elt [⟨tg, iter, ifs, 0⟩] scope pos) (some (.Name y py)) spos.line X.env = pure true)
    (hg : ∀ (s : Shared) (H : Hp) (C : Addr) (cl : List (Str × Addr)) (fp : List Addr), PG (X.blk s H scope (compEnvC scope cl C X.env) fp) tg (gName j)) (ht : ∀ (s : Shared) (H : Hp) (C : Addr) (cl : List (Str × Addr)) (fp : List Addr), PTs (X.blk s H scope (compEnvC scope cl C X.env) fp) ifs (tDT F.calm tt))
    (he : ∀ (s : Shared) (H : Hp) (C : Addr) (cl : List (Str × Addr)) (fp : List Addr), PE (X.blk s H scope (compEnvC scope cl C X.env) fp) elt (tD F.calm te)) (hs : ∀ x, foldedSetIterable iter X.env x = pure x := by intro _; rfl) :
    PS X (.Assign [.Name y py] (.ListComp elt [⟨tg, iter, ifs, 0⟩] scope pos) spos) (sD F (dAsg (dLcT Ta j tt te) (dgName i))) := by
  have z := ps_setLc hc hN hy hyl hsw (pi_tup hi) ok hg ht he hs
  rw [hv] at z
  exact PS.imp z (setLc_imp (by rw [← hK]; exact lcT_imp))
end
end DL
set_option Elab.async false
set_option linter.all false
set_option maxRecDepth 100000
set_option maxHeartbeats 2000000
/-! is None; facts; the head with tables -/
namespace DL
open PySem PySem.Spec L2 LamX
open PyProof.Rows hiding St
section
variable {X : Cx} {F : FP} {a b : Expr} {Ta Tb : TDE} {pos : Pos}
def isNo : D → Bool
  | .non => true
  | _ => false
def gIsN : G2 := fun x y Q => match y with
  | .non => Q (.bl (isNo x))
  | _ => False
theorem isNo_rep {K : PySem.W.Frag} {Z : Zn} {N : Addr → Prop} {H : Hp} {d : D} {v : V} (r : Rep K Z N H d v) : decide (v = V.non) = isNo d := by
  cases d with
  | non => rw [show v = V.non from r]; rfl
  | bl b => rw [show v = V.bl b from r]; rfl
  | int b => rw [show v = V.int b from r]; rfl
  | str b => rw [show v = V.str b from r]; rfl
  | tup ds => obtain ⟨p, vs, rfl, _⟩ := r; rfl
  | lst ds => obtain ⟨p, vs, rfl, _⟩ := r; rfl
  | dct ks ds => obtain ⟨p, vs, rfl, _⟩ := r; rfl
  | deck => obtain ⟨p, l, _, rfl⟩ := r; rfl
  | ty n => rw [show v = V.ty n from r]; rfl
  | kt ds => obtain ⟨p, vs, o, rfl, _⟩ := r; rfl
  | ins c fs ds => obtain ⟨p, dx, vs, rfl, _⟩ := r; rfl
theorem opd_isN : OpD F (fun x y H Q => y = .non ∧ Q (.bl (decide (x = .non))) H) gIsN := ⟨by
  intro N H x y dx dy Qd Q n rx ry h k
  unfold gIsN at h
  split at h
  · refine ⟨ry, ?_⟩
    rw [isNo_rep rx]
    exact k _ _ _ Ext.refl rep_bl h
  · exact h.elim⟩
theorem d_isn (ha : PE X a (tD F Ta)) (hb : PE X b (tD F Tb)) (hm : behindInMarks .Is b = false := by rfl) : PE X (.Compare a [.Is] [b] pos) (tD F (dBin gIsN Ta Tb)) := d_cmp op_isN opd_isN ha hb hm
theorem dt_isn (ha : PE X a (tD F Ta)) (hb : PE X b (tD F Tb)) (hm : behindInMarks .Is b = false := by rfl) : PT X (.Compare a [.Is] [b] pos) (tDT F (dTest (dBin gIsN Ta Tb))) := dt_cmp op_isN opd_isN ha hb hm
end
section
variable {X : Cx} {F : FP} {a : Expr} {Ta : TDE}
/-- an int or a bool as a test -/
def truI : D → Option Bool
  | .bl b => some b
  | .int i => some (i != 0)
  | _ => none
def dTruI (T : TDE) : TDT := fun ξ env Q => T ξ env fun d => match truI d with
  | some b => Q b
  | none => False
theorem dt_tru (ha : PE X a (tD F Ta)) (he : ∀ whole, isTrue a X.env whole = (do let v ← whole; standAt a.pos; holding [v] (truthy v)) := by intro _; rfl) : PT X a (tDT F (dTruI Ta)) := PT.imp (pt_truth ha he) (by
  rintro σ H Q ⟨N, env, Qd, f, hT, k⟩
  refine ⟨N, env, _, f, hT, fun v H1 d e1 r q => ?_⟩
  unfold truI at q
  cases d <;> first | exact q.elim | skip
  · rename_i b
    exact ⟨b, by rw [show v = V.bl b from r]; exact rfl, k _ _ e1 q⟩
  · rename_i i
    exact ⟨_, by rw [show v = V.int i from r]; exact rfl, k _ _ e1 q⟩)
end
/-! ### facts -/
def exisB (K : PySem.W.Frag) (n : Str) : Bool := match PySem.W.nsIn K mainGlobals n with
  | some (some (.ref C)) => xfB K C && (PySem.W.clsIn K C).isSome && decide (PySem.W.findIn K (.ref C) "__class__" = some (some (.builtin "object.__class__"))) && decide (PySem.W.specialIn K (.builtin "object.__class__") "__get__" = some (some (.builtin "getset_descriptor.__get__"))) &&
    decide (PySem.W.takesIn K (.builtin "object.__class__") = some true) && decide (PySem.W.mroIn K C (.type "object") = some true)
  | _ => false
theorem exis_ok {K : PySem.W.Frag} {n : Str} (c : exisB K n = true) : ∃ C, clsAt K n = .ref C ∧ ExIs K C := by
  unfold exisB at c
  split at c
  · rename_i C e
    simp only [Bool.and_eq_true, decide_eq_true_eq] at c
    obtain ⟨⟨⟨⟨⟨c1, c2⟩, c3⟩, c4⟩, c5⟩, c6⟩ := c
    exact ⟨C, by unfold clsAt; rw [e], xfB_ok c1, c2, c3, c4, c5, c6⟩
  · cases c
def refB (K : PySem.W.Frag) (n : Str) : Bool := match PySem.W.nsIn K mainGlobals n with
  | some (some (.ref _)) => true
  | _ => false
theorem ref_ok {K : PySem.W.Frag} {h : Heap} {mg : Str → Option Value} (X : K.In h) (G : h.Ns mainGlobals mg) {n : Str} (c : refB K n = true) : ∃ a, clsAt K n = .ref a ∧ mg n = some (.ref a) := by
  unfold refB at c
  split at c
  · rename_i a e
    exact ⟨a, by unfold clsAt; rw [e], PySem.W.mg_of X G e⟩
  · cases c
def initOf (s : Stmt) : Stmt := match s with
  | .ClassDef _ _ _ body _ _ _ _ _ _ _ => body.getD 0 s
  | s => s
theorem fng_false {P : Program} {w : World} {K : PySem.W.Frag} {mg : Str → Option Value} {base : Heap} {CX : CXT} {k : Nat} {f : Addr} {fd : FuncData} {ps : List Str} {m : Nat} : FnG P w K mg base CX k f fd ps (spD K m fun _ _ _ => False) :=
  ⟨fun _ _ _ _ ⟨_, _, _, _, _, _, _, _, h, _⟩ => h.elim, fun _ _ _ _ _ _ _ _ _ _ _ _ _ ⟨_, _, _, _, _, _, _, _, h, _⟩ => h.elim⟩
def kitB (K : PySem.W.Frag) (n m : Str) (b : Bool) : Bool := decide (PySem.W.kitOne K (clsAt K n) (clsAt K m) = some b)
/-- the names of the defs that make lambdas are TN -/
def tabNB (K : PySem.W.Frag) (TN : List Str) : Bool := decide (lamDefs.filter (hasDef K) = TN)
def tabP (K : PySem.W.Frag) (n : Str) : Addr := (He.cT K (n, none)).2
def tab1B (K : PySem.W.Frag) (n : Str) : Bool := decide ((tabP K n, lamQ n) ∈ tabsOf K) && (tabsOf K).all fun p => !decide (p.1 = tabP K n) || decide (p.2 = lamQ n)
structure TabF (K : PySem.W.Frag) (n : Str) : Prop where
  mem : (tabP K n, lamQ n) ∈ tabsOf K
  uni : ∀ p ∈ tabsOf K, p.1 = tabP K n → p.2 = lamQ n
theorem tab1_ok {K : PySem.W.Frag} {n : Str} (c : tab1B K n = true) : TabF K n := by
  unfold tab1B at c
  simp only [Bool.and_eq_true, decide_eq_true_eq, List.all_eq_true, Bool.or_eq_true, Bool.not_eq_true', decide_eq_false_iff_not] at c
  exact ⟨c.1, fun p hp e => (c.2 p hp).resolve_left fun z => z e⟩
abbrev TBs (K : PySem.W.Frag) (mg : Str → Option Value) (base : Heap) (TN : List Str) : Prop := ∀ n ∈ TN, TabB base mg (He.cT K (n, none)).1 (He.cT K (n, none)).2
/-! ### the head -/
section
variable {P : Program} {w : World} {K : PySem.W.Frag} {mg mb : Str → Option Value} {CX : CXT} {k : Nat} {fa a : Addr} {fd : FuncData} {x : Str} {sp : Sp} {s₁ : Shared} {vs : List Value} {ns : List Int}
def startT (K : PySem.W.Frag) (a : Addr) (vs : List Value) (ns : List Int) (ts : List Addr) : Hp := fun b => if b ∈ ts then some (.tbl #[]) else startH K a vs ns b
theorem startT_at {ts : List Addr} {b : Addr} {u : HO} (h : startT K a vs ns ts b = some u) : (b ∈ ts ∧ u = .tbl #[]) ∨ (K.lookup a = none ∧ b = a ∧ u = .frz { cls := .type "list", data := .seq vs.toArray } (.lst (ns.map V.int))) := by
  unfold startT at h
  split at h
  · rename_i hb
    exact .inl ⟨hb, (Option.some.inj h).symm⟩
  · exact .inr (startH_at h)
theorem law_callT {cs : List (Addr × Addr)} (KX : K.In s₁.heap) (hns : s₁.heap.Ns mainGlobals mg) (hb : s₁.heap.Ns builtinsNs mb) (hbb : ∀ x : Str, x ≠ "__name__" → mb x = bootBuiltins x) (hlim : s₁.heap.NoLimit) (hg : s₁.gens = #[])
    (eT : ∀ p ∈ cs, s₁.heap.get? p.2 = some { cls := .none, data := .fields #[] }) (oT : ∀ p ∈ cs, K.lookup p.2 = none) (cT : ∀ p ∈ cs, PySem.W.CodeHd s₁.heap p.1 p.2)
    (bmain : ∃ (bm : Addr) (ob : Obj), mg "__builtins__" = some (.ref bm) ∧ bm ≠ builtinsNs ∧ s₁.heap.get? bm = some ob ∧ ob.cls = .type "module" ∧ ob.dict = some builtinsNs ∧ ob.data = .plain)
    (ha : s₁.heap.get? a = some { cls := .type "list", data := .seq vs.toArray }) (hi : IntsAre vs ns) (hl : ns.length ≤ sizeLine) (hr : RoomG k callerA)
    (F : ∀ base : Heap, K.In base → base.Ns mainGlobals mg → (∀ p ∈ cs, TabB base mg p.1 p.2) → FnG P w K mg base CX k fa fd [x] sp) (hbind : ∀ (s : Shared) (u : Value), BindsTo s fd ⟨[u], []⟩ [(x, u)])
    (hsp : ∀ H : Hp, (∀ p ∈ cs, H p.2 = some (.tbl #[])) → SqL K H a (ns.map V.int) → sp [.ref a] H (fun v _ => v = .bl true) fun _ _ _ => False) (hCX : ∀ H e s', CX [] H s₁ (fun _ _ _ => False) e s' → False) :
    codeAny (model P w) callerA (.call (.ref fa) ⟨[.ref a], []⟩) (fun r s' => r = .ok (.ret (.bool true)) ∧ OldK s₁.heap s'.heap ∧ s'.os = s₁.os ∧ AllBare s'.gens) s₁ := by
  have rel := vals_ints hi
  have hlen : ns.length = vs.length := hi.length.symm
  have memT : ∀ p ∈ cs, p.2 ∈ cs.map Prod.snd := fun p hp => List.mem_map_of_mem hp
  have tabAt : ∀ b ∈ cs.map Prod.snd, s₁.heap.get? b = some { cls := .none, data := .fields #[] } := by
    intro b hb
    obtain ⟨p, hp, rfl⟩ := List.mem_map.mp hb
    exact eT p hp
  have notT : a ∉ cs.map Prod.snd := by
    intro z
    have e := tabAt a z
    rw [ha] at e
    injection e with e
    injection e with _ _ e _
    cases e
  generalize eH : startT K a vs ns (cs.map Prod.snd) = H
  have at_ : ∀ {b : Addr} {u : HO}, H b = some u → (b ∈ cs.map Prod.snd ∧ u = .tbl #[]) ∨ (K.lookup a = none ∧ b = a ∧ u = .frz { cls := .type "list", data := .seq vs.toArray } (.lst (ns.map V.int))) := fun {b u} h => startT_at (by rw [eH]; exact h)
  have free : ∀ {b : Addr}, b ≠ a → b ∉ cs.map Prod.snd → H b = none := fun {b} h h2 => by
    cases q : H b with
    | none => rfl
    | some u =>
      rcases at_ q with z | z
      · exact absurd z.1 h2
      · exact absurd z.2.1 h
  have tabH : ∀ p ∈ cs, H p.2 = some (.tbl #[]) := fun p hp => by
    rw [← eH]
    exact if_pos (memT p hp)
  have held : HOk P w H s₁.heap := fun b u e => by
    rcases at_ e with ⟨z, rfl⟩ | ⟨_, rfl, rfl⟩
    · exact tabAt b z
    · exact ⟨ha, by rw [List.length_map]; exact hl, vs, _, rel, ha⟩
  have script : SqL K H a (ns.map V.int) := by
    cases q : K.lookup a with
    | none =>
      refine .inl (.inr ⟨{ cls := .type "list", data := .seq vs.toArray }, ?_⟩)
      rw [← eH]
      unfold startT startH
      rw [if_neg notT, q]
      exact if_pos rfl
    | some o =>
      have e := KX a o q
      rw [ha] at e
      cases e
      exact .inr ⟨_, vs.toArray, _, q, rfl, rfl, rfl, by rw [List.size_toArray, ← hlen]; exact hl, by simpa using rel⟩
  have plainB : ∀ {b : Addr} {o : Obj}, s₁.heap.get? b = some o → (∀ (us : Array Value) (m : Nat), o.data ≠ .seq us m) → o.data ≠ .fields #[] → H b = none := fun {b o} e h1 h2 => free (fun z => by
    subst z
    rw [ha] at e
    cases e
    exact h1 _ _ rfl) fun z => by
    rw [tabAt b z] at e
    cases e
    exact h2 rfl
  have ns' : ∀ {b : Addr} {m : Str → Option Value}, s₁.heap.Ns b m → (hidT s₁.heap H).Ns b m := fun {b m} ⟨o, es, ep, e, d, r⟩ => ⟨o, es, ep, hidT_get e (plainB e (by intro _ _ z; rw [d] at z; cases z) (by intro z; rw [d] at z; cases z)), d, r⟩
  have inK : K.In (hidT s₁.heap H) := fun b o e => hidT_get (KX b o e) (by
    cases q : H b with
    | none => rfl
    | some u =>
      rcases at_ q with ⟨h1, _⟩ | ⟨h1, h2, _⟩
      · obtain ⟨p, hp, rfl⟩ := List.mem_map.mp h1
        rw [oT p hp] at e
        cases e
      · rw [h2, h1] at e
        cases e)
  have tabs : ∀ p ∈ cs, TabB (hidT s₁.heap H) mg p.1 p.2 := by
    intro p hp
    have hT := eT p hp
    have gP : mainGlobals ≠ p.2 := by
      obtain ⟨o, es, ep, e, d, _⟩ := hns
      intro z
      rw [z, hT] at e
      cases e
      cases d
    refine ⟨?_, ?_, gP⟩
    · obtain ⟨o, us, file, tf, flags, tg, inF, text, tt, e1, r1, r2, r3, rest⟩ := cT p hp
      refine ⟨o, us, file, tf, flags, tg, inF, text, tt, hidT_get e1 (plainB e1 ?_ ?_), r1, r2, r3, rest⟩
      · intro _ _ z; rw [r2] at z; cases z
      · intro z
        rw [r2] at z
        cases z
        simp at r3
    · obtain ⟨bm, ob, b1, b2, b3, b4, b5, b6⟩ := bmain
      refine ⟨bm, ob, b1, b2, ?_, ?_, hidT_get b3 (plainB b3 ?_ ?_), b4, b5, b6⟩
      · obtain ⟨o, es, ep, e, d, _⟩ := hns
        intro z
        rw [z, e] at b3
        cases b3
        rw [d] at b6
        cases b6
      · intro z
        rw [z, hT] at b3
        cases b3
        cases b6
      · intro _ _ z; rw [b6] at z; cases z
      · intro z; rw [b6] at z; cases z
  obtain ⟨mc, l1, l2⟩ := hlim
  have e0 : Env0 P w K mg (hidT s₁.heap H) callerA [] s₁ H :=
    ⟨rfl, ⟨inK, ns' hns, ⟨mb, ns' hb, hbb⟩, mc, ns' l1, l2⟩, fun b o e => of_hidT e, Nat.le_of_eq (hidT_size _ _), trivial, (fun b h => by cases h), held, .of_eq hg⟩
  refine codeAny_mono ((F _ inK (ns' hns) tabs).run callerA [] s₁ H ⟨[.ref a], []⟩ [.ref a] [.ref a] _ _ hr e0 (hbind s₁ (.ref a)) (.cons rfl .nil) (hsp H tabH script)) ?_
  rintro (e | fl) s' h
  · exact (hCX H e s' h).elim
  cases fl with
  | next => cases h
  | brk => cases h
  | cont => cases h
  | ret u =>
    obtain ⟨v, H', os, bare, un, hok', r', q⟩ := h
    have q' : v = .bl true := q
    subst q'
    obtain rfl : u = Value.bool true := r'
    have same : ∀ b o, b ∉ cs.map Prod.snd → s₁.heap.get? b = some o → s'.heap.get? b = some o := by
      intro b o nb e
      cases q : H b with
      | none => exact un.keep b o e q (by intro z; cases z) (by intro z; cases z)
      | some u =>
        rcases at_ q with z | ⟨_, rfl, rfl⟩
        · exact absurd z.1 nb
        · obtain ⟨e2, _⟩ := hok' b _ (un.frzs b _ _ q)
          rw [ha] at e
          cases e
          exact e2
    have wider : ∀ p ∈ cs, ∃ more : Array Value, s'.heap.get? p.2 = some { cls := .none, data := .fields more } := by
      intro p hp
      obtain ⟨more, z⟩ := un.tbls p.2 #[] (tabH p hp)
      exact ⟨_, hok' p.2 _ z⟩
    refine ⟨rfl, ⟨?_, ?_⟩, os, bare⟩
    · intro b o e
      by_cases nb : b ∈ cs.map Prod.snd
      · obtain ⟨p, hp, rfl⟩ := List.mem_map.mp nb
        obtain ⟨more, z⟩ := wider p hp
        rw [eT p hp] at e
        cases e
        exact .inr (.inl ⟨((cT p hp).tab (eT p hp)).isCodeTable, rfl, #[], more, rfl, by rw [Array.empty_append]; exact z⟩)
      · exact .inl (same b o nb e)
    · intro b o e
      by_cases nb : b ∈ cs.map Prod.snd
      · obtain ⟨p, hp, rfl⟩ := List.mem_map.mp nb
        obtain ⟨more, z⟩ := wider p hp
        exact ⟨_, z⟩
      · exact ⟨o, same b o nb e⟩
end
theorem walk_ofT {l : PySem.W.OpenLaw} {n k : Nat} {q : Program} {loose : List Str} {XP : (Str → Option Value) → Heap → Prop} {YP : World → Heap → Prop} {d : DefRec} {x : Str}
    (hn : l.most = some n) (hn2 : n ≤ sizeLine) (hdf : d.params.defaults = []) (hr : RoomG k callerA)
    (F : ∀ (w : World) (mg : Str → Option Value) (fa : Addr) (h : Heap), YP w h → h.Ns mainGlobals mg → mg d.name = some (.ref fa) →
      ∃ (K : PySem.W.Frag) (fd : FuncData) (cs : List (Addr × Addr)) (sp : Sp), K.In h ∧ ((∀ p ∈ cs, h.get? p.2 = some { cls := .none, data := .fields #[] }) ∧ (∀ p ∈ cs, K.lookup p.2 = none) ∧ ∀ p ∈ cs, PySem.W.CodeHd h p.1 p.2) ∧ (∀ (s : Shared) (u : Value), BindsTo s fd ⟨[u], []⟩ [(x, u)]) ∧
        (∀ (H : Hp) (a : Addr) (ns : List Int), ns.length ≤ n → (∀ p ∈ cs, H p.2 = some (.tbl #[])) → SqL K H a (ns.map V.int) → sp [.ref a] H (fun v _ => v = .bl true) fun _ _ _ => False) ∧
        ∀ base : Heap, K.In base → base.Ns mainGlobals mg → (∀ p ∈ cs, TabB base mg p.1 p.2) → FnG l.prog w K mg base CX0 k fa fd [x] sp) :
    PySem.W.WalkO q loose XP YP l.row.toRowW d [] (fun f vs => PySem.call f vs) :=
  Att.attach_callB hn hdf fun w s₀ s₁ mg mb fa o pm cd doc a vs ns G Y ho hd hcd hmg hobj hints hlen _ hg =>
    let ⟨_, _, _, _, KX, hT, hb, hsp, hF⟩ := F w mg fa _ Y G.T.g hmg
    law_callT KX G.T.g G.T.b G.T.builtins G.T.nolimit hg hT.1 hT.2.1 hT.2.2 G.T.bmain hobj hints (Nat.le_trans hlen hn2) hr hF hb (fun H hH hS => hsp H a ns hlen hH hS) fun _ _ _ z => z
def obsF (n : Nat) (fa : List He.Fa) (fn : List He.DefD) (TN : List Str) (ex : PySem.W.Frag → Bool) (g : Addr → Option Obj) : He.AlD × Bool :=
  (He.obsD fa fn (He.frT g (He.asD g n ++ [cStatics, sysModules])), ex (He.frT g (He.asD g n ++ [cStatics, sysModules])) && He.tabsB g (TN.map fun n => (n, none)) (He.frT g (He.asD g n ++ [cStatics, sysModules])))
structure SaysF (fa : List He.Fa) (fn : List He.DefD) (TN : List Str) (ex : PySem.W.Frag → Bool) (h : Heap) (K : PySem.W.Frag) : Prop where
  d : He.SaysD fa fn K
  ex : ex K = true
  hd : ∀ n ∈ TN, PySem.W.codeHdIn K (He.cT K (n, none)).1 (He.cT K (n, none)).2 = true
  out : ∀ n ∈ TN, K.lookup (He.cT K (n, none)).2 = none
  emp : ∀ n ∈ TN, h.get? (He.cT K (n, none)).2 = some { cls := .none, data := .fields #[] }
theorem saysF_of {n : Nat} {fa : List He.Fa} {fn : List He.DefD} {TN : List Str} {ex : PySem.W.Frag → Bool} {h : Heap} (e : obsF n fa fn TN ex h.get? = (He.valD fn, true)) : SaysF fa fn TN ex h (He.frT h.get? (He.asD h.get? n ++ [cStatics, sysModules])) := by
  have e1 := congrArg (fun z : He.AlD × Bool => z.1) e
  have e2 := congrArg (fun z : He.AlD × Bool => z.2) e
  unfold obsF at e1 e2
  dsimp only at e1 e2
  obtain ⟨x1, x2⟩ := Bool.and_eq_true_iff.mp e2
  have all : ∀ m ∈ TN, PySem.W.codeHdIn (He.frT h.get? (He.asD h.get? n ++ [cStatics, sysModules])) (He.cT (He.frT h.get? (He.asD h.get? n ++ [cStatics, sysModules])) (m, none)).1 (He.cT (He.frT h.get? (He.asD h.get? n ++ [cStatics, sysModules])) (m, none)).2 = true ∧
      ∃ o, h.get? (He.cT (He.frT h.get? (He.asD h.get? n ++ [cStatics, sysModules])) (m, none)).2 = some o ∧ He.emptyTab o = true := by
    intro m hm
    unfold He.tabsB at x2
    obtain ⟨y1, y2⟩ := Bool.and_eq_true_iff.mp (List.all_eq_true.mp x2 (m, none) (List.mem_map.mpr ⟨m, hm, rfl⟩))
    refine ⟨y1, ?_⟩
    split at y2
    · rename_i o z
      exact ⟨o, z, y2⟩
    · cases y2
  exact ⟨e1, x1, fun m hm => (all m hm).1, fun m hm => let ⟨_, _, z, q⟩ := all m hm; He.frT_none z q, fun m hm => by
    obtain ⟨_, o, z, q⟩ := all m hm
    rw [z, He.emptyTab_eq q]⟩
def hookF (n : Nat) (fa : List He.Fa) (fn : List He.DefD) (TN : List Str) (ex : PySem.W.Frag → Bool) : PySem.W.Hook where
  α := He.AlD × Bool
  obs := fun s => obsF n fa fn TN ex s.heap.get?
  val := fun _ => (He.valD fn, true)
  says := fun _ h => ∃ K : PySem.W.Frag, K.In h ∧ SaysF fa fn TN ex h K
  of := fun _ _ e => ⟨_, He.frT_in, saysF_of e⟩
  keeps := fun _ _ _ ⟨K, hK, c⟩ k => ⟨K, PySem.W.Frag.In.keeps hK k, ⟨c.d, c.ex, c.hd, c.out, fun p hp => k _ _ (c.emp p hp)⟩⟩
theorem obsF_eq {n : Nat} {fa : List He.Fa} {fn : List He.DefD} {TN : List Str} {ex : PySem.W.Frag → Bool} {g : Addr → Option Obj} {s : Shared} (h : ∀ a, g a = s.heap.get? a) : obsF n fa fn TN ex g = (hookF n fa fn TN ex).obs s := by
  have e : g = s.heap.get? := funext h
  subst e
  rfl
theorem cs_ok {fa : List He.Fa} {fn : List He.DefD} {TN : List Str} {ex : PySem.W.Frag → Bool} {h : Heap} {K : PySem.W.Frag} (KX : K.In h) (c : SaysF fa fn TN ex h K) :
    (∀ p ∈ TN.map (fun n => He.cT K (n, none)), h.get? p.2 = some { cls := .none, data := .fields #[] }) ∧ (∀ p ∈ TN.map (fun n => He.cT K (n, none)), K.lookup p.2 = none) ∧ ∀ p ∈ TN.map (fun n => He.cT K (n, none)), PySem.W.CodeHd h p.1 p.2 := by
  refine ⟨?_, ?_, ?_⟩ <;> intro p hp <;> obtain ⟨n, hn, rfl⟩ := List.mem_map.mp hp
  · exact c.emp n hn
  · exact c.out n hn
  · exact PySem.W.codeHd_of_K KX (c.hd n hn)
theorem tbs_of {K : PySem.W.Frag} {mg : Str → Option Value} {base : Heap} {TN : List Str} (h : ∀ p ∈ TN.map (fun n => He.cT K (n, none)), TabB base mg p.1 p.2) : TBs K mg base TN := fun n hn => h _ (List.mem_map.mpr ⟨n, hn, rfl⟩)
/-- the tables at the start are tables -/
theorem tabs_start {K : PySem.W.Frag} {TN : List Str} {H : Hp} (c : tabNB K TN = true) (h : ∀ p ∈ TN.map (fun n => He.cT K (n, none)), H p.2 = some (.tbl #[])) : Tabs (tabsOf K) H := by
  intro p hp
  unfold tabsOf at hp
  rw [of_decide_eq_true c] at hp
  obtain ⟨n, hn, rfl⟩ := List.mem_map.mp hp
  exact TabS.nil (h _ (List.mem_map.mpr ⟨n, hn, rfl⟩))
end DL
set_option Elab.async false
set_option linter.all false
set_option maxRecDepth 100000
set_option maxHeartbeats 2000000
/-! a list of the def's own, made by a comprehension on one line -/
namespace DL
open PySem PySem.Spec L2
open PyProof.Rows hiding St
section
variable {X : Cx} {F : FP} {a e elt iter : Expr} {ifs : List Expr} {scope : Scope} {own : List (Str × Nat)} {pos p pos' spos py : Pos} {tg : Expr} {Ta : TDE} {Tas : TDA} {tt : TDT} {te : TDE} {i j : Nat} {y : Str}
theorem ownLc_imp {T : TDL} {ta : TE} (h : ∀ σ H Q, tDL F T σ H Q → ta σ H Q) : ∀ De σ H, sD F (dOwn T i) De σ H → tAsg ta (gName i) De σ H := by
  rintro De σ H ⟨N, env, Dd, f, hT, ok⟩
  exact h _ _ _ ⟨N, env, _, f, hT, fun q vs H' ds n w => ok.nx _ _ _ _ (n.own i) (n.evo f.n) w⟩
theorem ds_ownLcR (hK : F.K = X.K) (hc : X.calm = true) (hN : X.N.Nodup) (hgl : Gl X "range") (hm : X.mg "range" = none) (ha : PA X [a] (tDA F Tas)) (ok : BlkOk X.N X.env.scope scope own) (hv : own.map (·.2) = [j]) (hy : X.N[i]? = some y) (hyl : X.env.scope.names.lookup y = some .local)
    (hsw : swapsWith (.ListComp elt [⟨tg, .Call (.Name "range" p) [a] [] pos', ifs, 0⟩] scope pos) (some (.Name y py)) spos.line X.env = pure true)
    (hg : ∀ (s : Shared) (H : Hp) (C : Addr) (cl : List (Str × Addr)) (fp : List Addr), PG (X.blk s H scope (compEnvC scope cl C X.env) fp) tg (gName j)) (ht : ∀ (s : Shared) (H : Hp) (C : Addr) (cl : List (Str × Addr)) (fp : List Addr), PTs (X.blk s H scope (compEnvC scope cl C X.env) fp) ifs (tDT F.calm tt))
    (he : ∀ (s : Shared) (H : Hp) (C : Addr) (cl : List (Str × Addr)) (fp : List Addr), PE (X.blk s H scope (compEnvC scope cl C X.env) fp) elt (tD F.calm te)) (hsa : starEach [a] X.env = [(false, eval a X.env)] := by rfl) (hs : ∀ x, foldedSetIterable (.Call (.Name "range" p) [a] [] pos') X.env x = pure x := by intro _; rfl) :
    PS X (.Assign [.Name y py] (.ListComp elt [⟨tg, .Call (.Name "range" p) [a] [] pos', ifs, 0⟩] scope pos) spos) (sD F (dOwn (lLcR Tas j tt te) i)) := by
  have z := ps_setLc hc hN hy hyl hsw (pi_range1 hgl hm ha hsa) ok hg ht he hs
  rw [hv] at z
  exact PS.imp z (ownLc_imp lcR_impL)
theorem ds_ownLcL (hK : F.K = X.K) (hc : X.calm = true) (hN : X.N.Nodup) (hi : PE X iter (tD F Ta)) (ok : BlkOk X.N X.env.scope scope own) (hv : own.map (·.2) = [j]) (hy : X.N[i]? = some y) (hyl : X.env.scope.names.lookup y = some .local)
    (hsw : swapsWith (.ListComp elt [⟨tg, iter, ifs, 0⟩] scope pos) (some (.Name y py)) spos.line X.env = pure true)
    (hg : ∀ (s : Shared) (H : Hp) (C : Addr) (cl : List (Str × Addr)) (fp : List Addr), PG (X.blk s H scope (compEnvC scope cl C X.env) fp) tg (gName j)) (ht : ∀ (s : Shared) (H : Hp) (C : Addr) (cl : List (Str × Addr)) (fp : List Addr), PTs (X.blk s H scope (compEnvC scope cl C X.env) fp) ifs (tDT F.calm tt))
    (he : ∀ (s : Shared) (H : Hp) (C : Addr) (cl : List (Str × Addr)) (fp : List Addr), PE (X.blk s H scope (compEnvC scope cl C X.env) fp) elt (tD F.calm te)) (hs : ∀ x, foldedSetIterable iter X.env x = pure x := by intro _; rfl) :
    PS X (.Assign [.Name y py] (.ListComp elt [⟨tg, iter, ifs, 0⟩] scope pos) spos) (sD F (dOwn (lLc Ta j tt te) i)) := by
  have z := ps_setLc hc hN hy hyl hsw (pi_list hi) ok hg ht he hs
  rw [hv] at z
  exact PS.imp z (ownLc_imp (by rw [← hK]; exact lc_impL))
end
/-! ### [e for x, y in zip(a, b)], a and b tuples of one length -/
def zipD : List D → List D → List D
  | x :: xs, y :: ys => .tup [x, y] :: zipD xs ys
  | _, _ => []
theorem zipD_len : ∀ {xs ys : List D}, xs.length = ys.length → (zipD xs ys).length = xs.length
  | [], [], _ => rfl
  | _ :: xs, _ :: ys, h => by
    show (zipD xs ys).length + 1 = xs.length + 1
    rw [zipD_len (by simpa using h)]
  | [], _ :: _, h => by cases h
  | _ :: _, [], h => by cases h
theorem zipD_get : ∀ {xs ys : List D} {i : Nat} {x y : D}, xs[i]? = some x → ys[i]? = some y → (zipD xs ys)[i]? = some (.tup [x, y])
  | x :: xs, y :: ys, 0, _, _, h1, h2 => by cases h1; cases h2; rfl
  | x :: xs, y :: ys, i + 1, _, _, h1, h2 => by
    show (zipD xs ys)[i]? = _
    exact zipD_get (by simpa using h1) (by simpa using h2)
  | [], _, _, _, _, h1, _ => by simp at h1
  | _ :: _, [], _, _, _, _, h2 => by simp at h2
abbrev gZ (j l : Nat) : TDG := dgTup 2 (dgCons (dgName j) (dgCons (dgName l) dgNil))
abbrev rZ (K : PySem.W.Frag) (j l : Nat) : TG := gTup K 2 (gCons (gName j) (gCons (gName l) gNil))
section
variable {X : Cx} {F : FP} {Ta : TDE} {Tas : TDA} {N : Addr → Prop} {σ : L2.St} {H1 H' : Hp} {env : SE} {A : Addr} {tt : TDT} {te : TDE} {all : List D} {Qd : D → Prop} {j l : Nat}
theorem wipe2 {x y : Option V} (hjl : j ≠ l) : L2.wipe (((L2.wipe σ [j, l]).set j x).set l y) [j, l] = L2.wipe σ [j, l] := by
  show ((((((σ.set l none).set j none).set j x).set l y).set l none).set j none) = (σ.set l none).set j none
  refine List.ext_getElem? fun k => ?_
  simp only [List.getElem?_set, List.length_set]
  by_cases e1 : j = k <;> by_cases e2 : l = k <;> simp [e1, e2]
theorem lc_turnZ (f : FOk F N σ H1 env) (hA : H1 A = none) (hjl : j ≠ l) (hz : all.length ≤ sizeLine) {i : Nat} {dx dy : D} {x y : V} {T : Addr} (hd : all[i]? = some (.tup [dx, dy])) (rx : Rep F.K F.Z N H1 dx x) (rye : Rep F.K F.Z N H1 dy y) (L : LcAt F N H1 A (gZ j l) tt te (wipeD env [j, l]) all Qd i H') (hT : H' T = none) :
    rZ F.K j l (.ref T) (L2.wipe σ [j, l]) (upd H' T (.tup [x, y])) fun σ2 H2 => L2.wipe σ2 [j, l] = L2.wipe σ [j, l] ∧ tDT F.calm tt σ2 H2 fun b H3 =>
      if b = true then tD F.calm te σ2 H3 fun y H4 => ∃ acc, H4 A = some (.lst acc) ∧ acc.length < sizeLine ∧ LcAt F N H1 A (gZ j l) tt te (wipeD env [j, l]) all Qd (i + 1) (upd H4 A (.lst (acc ++ [y]))) else LcAt F N H1 A (gZ j l) tt te (wipeD env [j, l]) all Qd (i + 1) H3 := by
  obtain ⟨ext, acc, ds, h1, h2, h3, h4⟩ := L
  obtain ⟨hi, e⟩ := List.getElem?_eq_some_iff.mp hd
  rw [List.drop_eq_getElem_cons hi, e] at h4
  obtain ⟨_, h4⟩ := h4
  have f0 : FOk F (fun q => N q ∨ q = A) (L2.wipe σ [j, l]) H' (wipeD env [j, l]) := (f.with' kp_lst hA ext h1).wipe [j, l]
  have lT : Ext F.Z H' (upd H' T (.tup [x, y])) := f0.n.lay hT
  have f1 := f0.ext' lT
  have xT := ext.trans lT
  have hAT : upd H' T (.tup [x, y]) A = some (.lst acc) := by rw [upd_ne (ne_of_none h1 hT)]; exact h1
  have mv : ∀ r u, ¬ N r → Kp u → H1 r = some u → upd H' T (.tup [x, y]) r = some u ∧ ¬ (N r ∨ r = A) := fun r u n k h => ⟨xT.keep r u (fun z => n (f.n.z r z)) k h, fun z => z.elim n (ne_of_none h hA)⟩
  have r1 : Rep F.K F.Z (fun q => N q ∨ q = A) (upd H' T (.tup [x, y])) dx x := Rep.mono mv dx x rx
  have r2 : Rep F.K F.Z (fun q => N q ∨ q = A) (upd H' T (.tup [x, y])) dy y := Rep.mono mv dy y rye
  have nz : ∀ p, InZ F.Z p → p ≠ A := fun p z e => by
    obtain ⟨o, q, _⟩ := f.n.all p (f.n.z p z)
    rw [e, hA] at q; cases q
  refine ⟨T, [x, y], rfl, sqt_of (N := fun _ => False) (.inl ⟨fun z => z, upd_same⟩), rfl, x, [y], rfl, y, [], rfl, rfl, ?_⟩
  refine ⟨wipe2 hjl, ?_⟩
  refine ⟨_, _, _, (((f1.set j r1).set l r2)).wish _, h4, fun b H3 e3 q3 => ?_⟩
  have x3 := xT.trans e3
  have a3 : H3 A = some (.lst acc) := e3.keep A _ (fun z => nz A z rfl) kp_lst hAT
  have f3 := f1.ext' e3
  by_cases hb : b = true
  · subst hb
    rw [if_pos rfl] at q3
    refine iteT ?_
    refine ⟨_, _, _, (((f1.set j r1).set l r2).ext' e3).wish _, q3, fun y H4 dy e4 ry q4 => ?_⟩
    have a4 : H4 A = some (.lst acc) := e4.keep A _ (fun z => nz A z rfl) kp_lst a3
    have x4 := x3.trans e4
    refine ⟨acc, a4, by omega, ⟨fun p o n k h => ?_, fun dk => ?_⟩, acc ++ [y], ds ++ [dy], upd_same, by simp; omega, ?_, ?_⟩
    · rw [upd_ne (ne_of_none h hA)]
      exact x4.keep p o n k h
    · refine ⟨fun a l ez => ?_, fun p hp => ?_⟩
      · obtain ⟨xs, m, c, k1, k2, k3⟩ := (x4.deck dk).1 a l ez
        exact ⟨xs, m, c, by rw [upd_ne (nz a ⟨a, l, ez, .inl rfl⟩)]; exact k1, by rw [upd_ne (nz l ⟨a, l, ez, .inr rfl⟩)]; exact k2, k3⟩
      · exact tab_upd a4 kp_lst (fun _ h => by cases h) ((x4.deck dk).2 p hp)
    · have mv4 : ∀ r u, ¬ (N r ∨ r = A) → Kp u → H4 r = some u → upd H4 A (.lst (acc ++ [y])) r = some u ∧ ¬ (N r ∨ r = A) := fun r u n _ h => ⟨by rw [upd_ne (fun z => n (.inr z))]; exact h, n⟩
      have h4' : Reps F.K F.Z (fun q => N q ∨ q = A) H4 ds acc := ((h3.ext lT f0.n.z).ext e3 f1.n.z).ext e4 f1.n.z
      exact (Reps.mono mv4 _ _ h4').snoc (Rep.mono mv4 _ _ ry)
    · have : (fun ys => Qd (.lst (ds ++ [dy] ++ ys))) = fun ys => Qd (.lst (ds ++ dy :: ys)) := by
        funext ys; rw [List.append_assoc]; rfl
      rw [this]
      exact q4
  · rw [Bool.not_eq_true] at hb
    subst hb
    rw [if_neg Bool.false_ne_true] at q3
    refine iteF ?_
    exact ⟨x3, acc, ds, a3, by omega, (h3.ext lT f0.n.z).ext e3 f1.n.z, q3⟩
theorem lc_endZ {env0 : SE} (f : FOk F N σ H1 env) (hA : H1 A = none) {G : TDG} {H0 : Hp} {Q : VK} (e : Ext F.Z H0 H1) (k : ∀ v H' d, Ext F.Z H0 H' → Rep F.K F.Z N H' d v → Qd d → Q v H') {n : Nat} (hn : all.length = n) (L : LcAt F N H1 A G tt te env0 all Qd n H') : Q (.ref A) H' := by
  obtain ⟨ext, acc, ds, h1, h2, h3, h4⟩ := L
  rw [← hn, List.drop_length] at h4
  have h4 : Qd (.lst (ds ++ [])) := h4
  rw [List.append_nil] at h4
  exact k _ _ (.lst ds) (e.trans ext) ⟨A, acc, rfl, f.n.fresh hA, h1, h3.less fun p z => .inl z⟩ h4
def dLcZ (T : TDA) (j l : Nat) (tt : TDT) (te : TDE) : TDE := fun ξ env Q => T ξ env fun ds => match ds with
  | [.tup xs, .tup ys] => (xs.length = ys.length ∧ xs.length ≤ sizeLine) ∧ lcD (gZ j l) tt te (wipeD env [j, l]) (zipD xs ys) fun zs => Q (.lst zs)
  | _ => False
theorem lcZ_imp (hjl : j ≠ l) : ∀ σ H Q, tD F (dLcZ Tas j l tt te) σ H Q → tLc (RZ.iZipA F.K (tDA F Tas)) (rZ F.K j l) (tDT F.calm tt) (tD F.calm te) [j, l] σ H Q := by
  rintro σ H Q ⟨N, env, Qd, f, hT, k⟩
  refine ⟨N, env, _, f, hT, fun vs H1 ds e1 r q => ?_⟩
  split at q
  · rename_i xs ys
    obtain ⟨v1, _, rfl, ⟨a, us, rfl, ra, rs⟩, v2, _, rfl, ⟨b, ws, rfl, rb, rs2⟩, rfl⟩ := r
    have f1 := f.ext' e1
    obtain ⟨⟨hl, hz⟩, q⟩ := q
    have l1 := rs.length
    have l2 := rs2.length
    have lz : (zipD xs ys).length = us.length := by rw [zipD_len hl, l1]
    refine ⟨a, b, us, ws, rfl, .inr ⟨sqt_of ra, sqt_of rb, fun A hA => ?_⟩⟩
    refine ⟨fun i m H' => m = us.length - i ∧ i ≤ us.length ∧ LcAt F N H1 A (gZ j l) tt te (wipeD env [j, l]) (zipD xs ys) Qd i H', ⟨us.length, rfl, Nat.zero_le _, lc_start f1.n hA q⟩, ?_⟩
    rintro i m H' ⟨rfl, hi, L⟩
    have qa : SqT F.K H' a us := by
      refine sqt_of (N := N) ?_
      rcases ra with ⟨n, ra⟩ | ra
      · exact .inl ⟨n, L.ext.keep a _ (fun z => n (f.n.z a z)) kp_tup ra⟩
      · exact .inr ra
    have qb : SqT F.K H' b ws := by
      refine sqt_of (N := N) ?_
      rcases rb with ⟨n, rb⟩ | rb
      · exact .inl ⟨n, L.ext.keep b _ (fun z => n (f.n.z b z)) kp_tup rb⟩
      · exact .inr rb
    by_cases hlt : i < us.length
    · have hx : us[i]? = some us[i] := List.getElem?_eq_getElem hlt
      have hlt2 : i < ws.length := by omega
      have hy : ws[i]? = some ws[i] := List.getElem?_eq_getElem hlt2
      refine .inr ⟨⟨us, ws, _, _, qa, qb, hx, hy⟩, fun H2 => LcAt F N H1 A (gZ j l) tt te (wipeD env [j, l]) (zipD xs ys) Qd (i + 1) H2, fun H2 p => ⟨us.length - (i + 1), by omega, rfl, hlt, p⟩, ?_⟩
      rintro v H2 ⟨T, x', y', rfl, hT', rfl, g1, g2⟩
      obtain ⟨dx, hdx, rdx⟩ := rs.getV (g1 us qa)
      obtain ⟨dy, hdy, rdy⟩ := rs2.getV (g2 ws qb)
      exact lc_turnZ f1 hA hjl (by omega) (zipD_get hdx hdy) rdx rdy L hT'
    · have e : i = us.length := by omega
      subst e
      exact .inl ⟨⟨us, ws, qa, qb, .inl (Nat.le_refl _)⟩, lc_endZ f1 hA e1 k lz L⟩
  · exact q.elim
variable {a b elt : Expr} {elts ifs : List Expr} {kk : Nat} {scope : Scope} {own : List (Str × Nat)} {pos p pos' tpos : Pos}
theorem d_lcZ (hK : F.K = X.K) (hc : X.calm = true) (hN : X.N.Nodup) (hjl : j ≠ l) (hgl : Gl X "zip") (hm : X.mg "zip" = none) (ha : PA X [a, b] (tDA F Tas)) (ok : BlkOk X.N X.env.scope scope own) (hv : own.map (·.2) = [j, l])
    (hg : ∀ (s : Shared) (H : Hp) (C : Addr) (cl : List (Str × Addr)) (fp : List Addr), PG (X.blk s H scope (compEnvC scope cl C X.env) fp) (.Tuple elts kk tpos) (rZ X.K j l)) (ht : ∀ (s : Shared) (H : Hp) (C : Addr) (cl : List (Str × Addr)) (fp : List Addr), PTs (X.blk s H scope (compEnvC scope cl C X.env) fp) ifs (tDT F.calm tt))
    (he : ∀ (s : Shared) (H : Hp) (C : Addr) (cl : List (Str × Addr)) (fp : List Addr), PE (X.blk s H scope (compEnvC scope cl C X.env) fp) elt (tD F.calm te)) (hs1 : starEach [a, b] X.env = (false, eval a X.env) :: starEach [b] X.env := by rfl) (hpl : (backTo pos' (starEach [b] X.env)).any (·.1) = false := by rfl)
    (hs : ∀ x, foldedSetIterable (.Call (.Name "zip" p) [a, b] [] pos') X.env x = pure x := by intro _; rfl) :
    PE X (.ListComp elt [⟨.Tuple elts kk tpos, .Call (.Name "zip" p) [a, b] [] pos', ifs, 0⟩] scope pos) (tD F (dLcZ Tas j l tt te)) := by
  have z := pe_lc (pos := pos) hc hN (RZ.pi_zipA hgl hm ha hs1 hpl) ok hg ht he hs
  rw [hv] at z
  exact PE.imp z (by rw [← hK]; exact lcZ_imp hjl)
end
end DL
set_option Elab.async false
set_option linter.all false
set_option maxRecDepth 100000
/-! what can be shown, by weight -/
namespace DL
open PySem PySem.Spec L2
/-- signs that are signs -/
def Cs (x : Str) : Prop := ∀ c ∈ x.cps.toList, c < 16 ^ 8
theorem cs_of (s : String) : Cs (Str.ofString s) := by
  intro c h
  rw [Str.ofString_eq_toList] at h
  obtain ⟨x, _, rfl⟩ := List.mem_map.mp h
  exact x.val.toNat_lt
theorem Cs.app {x y : Str} (h : Cs x) (g : Cs y) : Cs (x ++ y) := by
  intro c m
  have e : (x ++ y).cps.toList = x.cps.toList ++ y.cps.toList := by
    show (x.cps ++ y.cps).toList = _
    exact Array.toList_append
  rw [e] at m
  exact (List.mem_append.mp m).elim (h c) (g c)
theorem cs_from : ∀ (ts : List Str) (k : Nat) (acc : Str), Cs acc → (∀ t ∈ ts, Cs t) → Cs (textFrom k acc ts)
  | [], _, _, h, _ => h
  | t :: ts, k, acc, h, g => cs_from ts (k + 1) _ ((h.app (cs_of _)).app (g t List.mem_cons_self)) fun u m => g u (List.mem_cons_of_mem _ m)
theorem cs_list {ts : List Str} (g : ∀ t ∈ ts, Cs t) : Cs (listText ts) := (cs_from ts 0 _ (cs_of _) g).app (cs_of _)
theorem cs_join : ∀ (ts : List Str), (∀ t ∈ ts, Cs t) → Cs (Str.join ", " ts)
  | [], _ => cs_of ""
  | [t], g => g t List.mem_cons_self
  | t :: u :: r, g => ((g t List.mem_cons_self).app (cs_of _)).app (cs_join (u :: r) fun x m => g x (List.mem_cons_of_mem _ m))
theorem cs_tuple {ts : List Str} (g : ∀ t ∈ ts, Cs t) : Cs (tupleText ts) := ((cs_of "(").app (cs_join ts g)).app (cs_of _)
theorem cs_dict {ts : List Str} (g : ∀ t ∈ ts, Cs t) : Cs (dictText ts) := ((cs_of "{").app (cs_join ts g)).app (cs_of _)
theorem cs_char {q c : Nat} (hq : q < 16 ^ 8) (hc : c < 16 ^ 8) : ∀ x ∈ Builtin.Str.reprChar q c, x < 16 ^ 8 := by
  have hx : ∀ (n : Nat), ∀ x ∈ (List.replicate (n - ((Nat.toDigits 16 c).map Char.toNat).length) 48 ++ (Nat.toDigits 16 c).map Char.toNat), x < 16 ^ 8 := by
    intro n x m
    rcases List.mem_append.mp m with m | m
    · have := (List.mem_replicate.mp m).2
      subst this
      decide
    · obtain ⟨y, _, rfl⟩ := List.mem_map.mp m
      exact y.val.toNat_lt
  have small : ∀ {x a b : Nat}, x ∈ [a, b] → a < 16 ^ 8 → b < 16 ^ 8 → x < 16 ^ 8 := by
    intro x a b m h1 h2
    rcases List.mem_cons.mp m with rfl | m
    · exact h1
    · rcases List.mem_cons.mp m with rfl | m
      · exact h2
      · cases m
  intro x m
  unfold Builtin.Str.reprChar at m
  dsimp only at m
  repeat' split at m
  all_goals first
    | exact small m (by decide) hc
    | exact small m (by decide) (by decide)
    | (rcases List.mem_cons.mp m with rfl | m
       · exact hc
       · cases m)
    | (rcases List.mem_append.mp m with m | m
       · exact small m (by decide) (by decide)
       · exact hx _ x m)
theorem cs_repr {x : Str} (h : Cs x) : Cs (reprText x) := by
  have hq : reprQuote x < 16 ^ 8 := by
    unfold reprQuote
    split <;> decide
  have key : ∀ (l : List Nat) (acc : Array Nat), (∀ c ∈ l, c < 16 ^ 8) → (∀ c ∈ acc.toList, c < 16 ^ 8) → ∀ c ∈ (l.foldl (fun out c => out ++ (Builtin.Str.reprChar (reprQuote x) c).toArray) acc).toList, c < 16 ^ 8 := by
    intro l
    induction l with
    | nil => intro acc _ h; exact h
    | cons a l ih =>
      intro acc h1 h2
      refine ih _ (fun c m => h1 c (List.mem_cons_of_mem _ m)) ?_
      intro c m
      rw [Array.toList_append] at m
      rcases List.mem_append.mp m with m | m
      · exact h2 c m
      · exact cs_char hq (h1 a List.mem_cons_self) c (by simpa using m)
  intro c m
  unfold reprText at m
  have m : c ∈ ((x.cps.foldl (fun out c => out ++ (Builtin.Str.reprChar (reprQuote x) c).toArray) #[reprQuote x]).push (reprQuote x)).toList := m
  rw [← Array.foldl_toList, Array.toList_push] at m
  rcases List.mem_append.mp m with m | m
  · exact key _ _ h (by intro c m; simp at m; rw [m]; exact hq) c m
  · simp at m
    rw [m]
    exact hq
/-- shown with at most w signs, at most k deep -/
structure Gd (w k : Nat) (d : D) : Prop where
  pl : plainR d = true
  sh : (toP d).showable = true
  dp : (toP d).depth ≤ k
  ln : (toP d).shown.length ≤ w
  cs : Cs (toP d).shown
  le : ∀ ds, seqOf d = some ds → ds.length ≤ 1000
theorem Gd.mono {w k w' k' : Nat} {d : D} (g : Gd w k d) (h : w ≤ w') (h' : k ≤ k') : Gd w' k' d := ⟨g.pl, g.sh, Nat.le_trans g.dp h', Nat.le_trans g.ln h, g.cs, g.le⟩
theorem Gd.show {w k : Nat} {d : D} (g : Gd w k d) (h : w ≤ 16777216 := by decide) (h' : k ≤ 64 := by decide) : showR d := ⟨g.pl, g.sh, Nat.le_trans g.dp h', Nat.le_trans g.ln (by rw [sizeLine_eq]; exact h)⟩
theorem gd_non : Gd 100 0 .non := ⟨rfl, rfl, by decide +kernel, by decide +kernel, cs_of "None", fun _ h => by cases h⟩
theorem gd_bl (b : Bool) : Gd 100 0 (.bl b) := ⟨rfl, rfl, by cases b <;> decide +kernel, by cases b <;> decide +kernel, by cases b <;> exact cs_of _, fun _ h => by cases h⟩
theorem gd_int {i : Int} (h : Bd 250 i) : Gd 100 0 (.int i) := by
  have h10 : i.natAbs < 10 ^ 76 := Nat.lt_of_lt_of_le h (by decide)
  have l := int_text_length_le10 (k := 76) (by decide) h10
  refine ⟨rfl, ?_, ?_, ?_, cs_of _, fun _ h => by cases h⟩
  · simp only [toP, PyData.showable]
    exact decide_eq_true (PySem.Flt.log2_lt_of (by decide) (h.mono (m := 1920) (by decide)))
  · simp only [toP, PyData.depth]; decide
  · show (Str.ofString (toString i)).length ≤ 100
    rw [PySem.ofString_length]
    omega
theorem gd_str {x : Str} {n : Nat} (h : x.length ≤ n) (c : Cs x) : Gd (10 * n + 2) 0 (.str x) := by
  refine ⟨rfl, rfl, ?_, ?_, cs_repr c, fun _ h => by cases h⟩
  · simp only [toP, PyData.depth]; decide
  · show (reprText x).length ≤ _
    have := StrLaws.reprText_len x c
    omega
theorem gds {w k : Nat} : ∀ ds : List D, (∀ d ∈ ds, Gd w k d) → plainRs ds = true ∧ PyData.showableAll (toPs ds) = true ∧ PyData.depthAll (toPs ds) ≤ k ∧ ((PyData.shownAll (toPs ds)).map (·.length)).sum ≤ w * ds.length ∧ (PyData.shownAll (toPs ds)).length = ds.length ∧ ∀ t ∈ PyData.shownAll (toPs ds), Cs t
  | [], _ => by refine ⟨rfl, rfl, ?_, ?_, ?_, ?_⟩ <;> simp [toPs, PyData.shownAll, PyData.depthAll]
  | d :: ds, h => by
    obtain ⟨h1, h2, h3, h4, h5, h6⟩ := gds ds fun x m => h x (List.mem_cons_of_mem _ m)
    have g := h d List.mem_cons_self
    refine ⟨?_, ?_, ?_, ?_, ?_, ?_⟩
    · show (plainR d && plainRs ds) = true
      rw [g.pl, h1]; rfl
    · show PyData.showableAll (toP d :: toPs ds) = true
      simp only [PyData.showableAll, g.sh, h2, Bool.and_self]
    · show PyData.depthAll (toP d :: toPs ds) ≤ k
      have := g.dp
      simp only [PyData.depthAll]
      omega
    · show ((PyData.shownAll (toP d :: toPs ds)).map (·.length)).sum ≤ _
      have := g.ln
      simp only [PyData.shownAll, List.map_cons, List.sum_cons, List.length_cons, Nat.mul_succ]
      omega
    · show (PyData.shownAll (toP d :: toPs ds)).length = _
      simp only [PyData.shownAll, List.length_cons, h5]
    · show ∀ t ∈ PyData.shownAll (toP d :: toPs ds), Cs t
      intro t m
      simp only [PyData.shownAll, List.mem_cons] at m
      rcases m with rfl | m
      · exact g.cs
      · exact h6 t m
theorem gd_lst {w k n : Nat} {ds : List D} (h : ∀ d ∈ ds, Gd w k d) (hl : ds.length ≤ n) (hn : n ≤ 1000 := by decide) : Gd ((w + 2) * n + 4) (k + 1) (.lst ds) := by
  obtain ⟨h1, h2, h3, h4, h5, h6⟩ := gds ds h
  have m : (w + 2) * ds.length ≤ (w + 2) * n := Nat.mul_le_mul_left _ hl
  refine ⟨h1, ?_, ?_, ?_, ?_, fun _ e => by cases e; omega⟩
  · simpa only [toP, PyData.showable] using h2
  · simp only [toP, PyData.depth]; omega
  · have q := listText_len_le (PyData.shownAll (toPs ds))
    rw [show (toP (.lst ds)).shown = listText (PyData.shownAll (toPs ds)) by simp only [toP, PyData.shown]]
    rw [Nat.add_mul] at m
    omega
  · rw [show (toP (.lst ds)).shown = listText (PyData.shownAll (toPs ds)) by simp only [toP, PyData.shown]]
    exact cs_list h6
theorem gd_tup {w k n : Nat} {ds : List D} (h : ∀ d ∈ ds, Gd w k d) (hl : ds.length ≤ n) (hn : n ≤ 1000 := by decide) : Gd ((w + 2) * n + 4) (k + 1) (.tup ds) := by
  obtain ⟨h1, h2, h3, h4, h5, h6⟩ := gds ds h
  have m : (w + 2) * ds.length ≤ (w + 2) * n := Nat.mul_le_mul_left _ hl
  refine ⟨h1, ?_, ?_, ?_, ?_, fun _ e => by cases e; omega⟩
  · simpa only [toP, PyData.showable] using h2
  · simp only [toP, PyData.depth]; omega
  · have q := tupleText_len_le (PyData.shownAll (toPs ds))
    rw [show (toP (.tup ds)).shown = tupleText (PyData.shownAll (toPs ds)) by simp only [toP, PyData.shown]]
    rw [Nat.add_mul] at m
    omega
  · rw [show (toP (.tup ds)).shown = tupleText (PyData.shownAll (toPs ds)) by simp only [toP, PyData.shown]]
    exact cs_tuple h6
/-- the parts of what is plain are typed -/
theorem typed_of {d : D} (h : plainR d = true) : typed d = true := by
  cases d <;> first | rfl | cases h
theorem plainRs_mem : ∀ {ds : List D}, plainRs ds = true → ∀ d ∈ ds, plainR d = true
  | [], _, _, m => by cases m
  | x :: ds, h, d, m => by
    have h : (plainR x && plainRs ds) = true := h
    obtain ⟨h1, h2⟩ := Bool.and_eq_true_iff.mp h
    rcases List.mem_cons.mp m with rfl | m
    · exact h1
    · exact plainRs_mem h2 d m
end DL
set_option Elab.async false
set_option linter.all false
set_option maxRecDepth 100000
set_option maxHeartbeats 2000000
/-! for i, x in enumerate(t), t a tuple -/
namespace PySem
open Sem (wp)
/-- enumerate(v) begins, whatever iter(v) is -/
theorem enumStartsOver {v : Value} {o : Obj} {G : Heap → Prop} (B : Begins v o G) :
    Meets (Builtin.«enumerate.__new__» ⟨[.type "enumerate", v], []⟩) (fun _ R s => G s.heap ∧
      R (.ok (.ret (.ref (s.heap.push o).objs.size))) { s with heap := (s.heap.push o).push { cls := .type "enumerate", data := .fields #[.none, .bool false, .ref s.heap.objs.size, rawInt 0, .none, .none] } }) :=
  .of_wp fun prog w A R s h => by
    obtain ⟨hp, g, d, tk, os⟩ := s
    obtain ⟨h0, h⟩ := h
    have hsub := sub_enumerate
    have begin_ : ∀ {A' : Around} {E : Value → Shared → Prop} {Q : Value → Shared → Prop}, Q (.ref hp.objs.size) ⟨hp.push o, g, d, tk, os⟩ → wpAny (model prog w) A' (pyIter v) Q E ⟨hp, g, d, tk, os⟩ :=
      fun q => B.iter prog w _ _ ⟨hp, g, d, tk, os⟩ _ h0 q
    wp_walk
    refine wpAny_stack_any fun st => wpAny_pure ?_
    split
    · rename_i c _ _ _ _ _
      cases (c == Value.type "enumerate") <;>
      · wp_walk using begin_
        exact ⟨_, rfl, h⟩
    · wp_walk using begin_
      exact ⟨_, rfl, h⟩
section
variable {prog : Program} {w : World} {A : Around} {E : Value → Shared → Prop} {s : Shared}
theorem enumTupleBegins {t : Addr} {items : Array Value} {Q : Value → Shared → Prop} (hT : s.heap.IsTuple t items)
    (h : ∀ h', IsEnum h' (s.heap.objs.size + 1) s.heap.objs.size 0 .none → h'.IsTupleIter s.heap.objs.size t 0 → h'.objs.size = s.heap.objs.size + 2 →
      (∀ b o, s.heap.get? b = some o → h'.get? b = some o) → Q (.ref (s.heap.objs.size + 1)) { s with heap := h' }) :
    wpAny (model prog w) A (call (.type "enumerate") [.ref t]) Q E s := by
  refine callType_new F.called_enumerate (by decide) (F.typeCall_enumerate_1 _) (F.newCall_enumerate_1 _) (fun obj => F.args_object_init_2 obj _) F.entry_enumerate_new
    (enumStartsOver (begins_tuple t items)) ⟨hT, ?_⟩
  generalize hg1 : s.heap.push { cls := .type "tuple_iterator", data := .fields #[.ref t, .int 0 0] } = g1
  have z1 : g1.objs.size = s.heap.objs.size + 1 := by rw [← hg1]; exact Heap.size_push ..
  have it1 : g1.get? s.heap.objs.size = some { cls := .type "tuple_iterator", data := .fields #[.ref t, .int 0 0] } := by rw [← hg1]; exact Heap.get?_push_size _ rfl
  have k1 : ∀ b o, s.heap.get? b = some o → g1.get? b = some o := fun b o e => by rw [← hg1]; exact Heap.get?_push_of_some _ e
  generalize hg2 : g1.push { cls := .type "enumerate", data := .fields #[.none, .bool false, .ref s.heap.objs.size, rawInt 0, .none, .none] } = g2
  have z2 : g2.objs.size = s.heap.objs.size + 2 := by rw [← hg2, Heap.size_push, z1]
  have e2 : g2.get? (s.heap.objs.size + 1) = some { cls := .type "enumerate", data := .fields #[.none, .bool false, .ref s.heap.objs.size, rawInt 0, .none, .none] } := by
    rw [← hg2, ← z1]; exact Heap.get?_push_size _ rfl
  have k2 : ∀ b o, g1.get? b = some o → g2.get? b = some o := fun b o e => by rw [← hg2]; exact Heap.get?_push_of_some _ e
  show _ ∧ _
  rw [z1]
  exact ⟨⟨_, e2, rfl⟩, h g2 e2 ⟨_, k2 _ _ it1, rfl, rfl⟩ z2 fun b o e => k2 b o (k1 b o e)⟩
end
end PySem
namespace L2
open PySem PySem.Spec PyProof.Rows
/-- the tuple at a, each item in a new pair behind its place -/
def ItP (K : PySem.W.Frag) (a : Addr) : It where
  go := fun i H => ∃ (xs : List V) (x : V), SqT K H a xs ∧ xs[i]? = some x
  yld := fun i H v H' => ∃ T x, v = .ref T ∧ H T = none ∧ H' = upd H T (.tup [.int (i : Nat), x]) ∧ ∀ xs, SqT K H a xs → xs[i]? = some x
  stop := fun i H => ∃ xs : List V, SqT K H a xs ∧ xs.length = i
theorem tup_ne {h : Heap} {a b : Addr} {vs : Array Value} {o : Obj} (t : h.IsTuple a vs) (e : h.get? b = some o) (n : o.cls ≠ .type "tuple") : a ≠ b := by
  rintro rfl
  obtain ⟨o2, p2, c2, _⟩ := t
  rw [e] at p2
  cases p2
  exact n c2
theorem tup_nit {h : Heap} {a it : Addr} {i : Nat} {vs : Array Value} (t : h.IsTuple a vs) (q : h.IsTupleIter it a i) : a ≠ it := by
  obtain ⟨o1, p1, c1, _⟩ := q
  exact tup_ne t p1 (by rw [c1]; decide)
theorem two_mem {b e it : Addr} (h : b ∈ [e, it]) : b = e ∨ b = it := by simpa using h
theorem turnP {P : Program} {w : World} {K : PySem.W.Frag} {elts : List Expr} {kk : Nat} {tpos : Pos} (a e it : Addr) :
    Turn P w K (.Tuple elts kk tpos) (ItP K a) [e, it] e (fun i h => (∃ old, IsEnum h e it ((i : Nat) : Int) old) ∧ h.IsTupleIter it a i ∧ e ≠ it) where
  mem := List.mem_cons_self
  obj := fun i h st b hb => by
    obtain ⟨⟨_, he⟩, ⟨o, ho, _, hd⟩, _⟩ := st
    rcases two_mem hb with rfl | rfl
    · exact ⟨_, he, fun _ q => nomatch q⟩
    · exact ⟨o, ho, fun _ q => by rw [hd] at q; cases q⟩
  keep := fun i h h' st k => by
    obtain ⟨⟨old, he⟩, hi, hne⟩ := st
    exact ⟨⟨old, k e List.mem_cons_self _ he⟩, hi.at fun o q => k it (by simp) o q, hne⟩
  item := by
    intro X hP hw hK hc i pins s σ H E I hf st hg
    subst hP hw hK
    obtain ⟨⟨old, he⟩, hit, hne⟩ := st
    obtain ⟨xs, x, sq, hx⟩ := hg
    obtain ⟨its, vals, tup, _⟩ := I.tuple sq
    obtain ⟨u, hu, ru⟩ := vals.get hx
    have le := Heap.lt_size he
    have li : it < s.heap.objs.size := by obtain ⟨_, q, _⟩ := hit; exact Heap.lt_size q
    have tup : s.heap.IsTuple a its.toArray := tup
    have ai := tup_nit tup hit
    have ae : a ≠ e := tup_ne tup he (show Value.type "enumerate" ≠ Value.type "tuple" by decide)
    have hi : i < its.toArray.size := by
      have := (List.getElem?_eq_some_iff.mp hu).1
      simpa using this
    have eu : ∀ y, its.toArray[i]? = some y → y = u := fun y hy => by
      have : its[i]? = some y := by simpa using hy
      rw [hu] at this
      exact (Option.some.inj this).symm
    refine wpAny_pyNext_enum_itemD (Draws.tuple (A := X.A.in1) (I.ok.hd hc) it a ai its.toArray) he ⟨hit, tup⟩ hi hne (fun m => (two_mem m).elim hne (Ne.symm ae)) fun y h' tk hy out st' hT hsz hk => ?_
    cases eu y hy
    refine ⟨_, rfl, wpAny_letOwnedTupleGo_enum (s := { s with heap := h', toks := tk + 1 }) out fun h'' he' sb => ?_⟩
    have hT2 : h''.get? s.heap.objs.size = some { cls := .type "tuple", data := .seq #[.int i tk, u] } := (sb.2 _ (Nat.ne_of_gt le)).trans hT
    have fresh : ObjOk X.prog X.w (upd H s.heap.objs.size (.tup [.int (i : Nat), x])) h'' s.heap.objs.size (.tup [.int (i : Nat), x]) :=
      ⟨by show 2 ≤ sizeLine; decide, [.int i tk, u], .cons ⟨_, rfl⟩ (.cons ru .nil), ⟨_, hT2, rfl, _, rfl⟩⟩
    have kept : ∀ b ob, b ∉ [e, it] → s.heap.get? b = some ob → h''.get? b = some ob := fun b ob hb q => by
      have b1 : b ≠ e := fun z => hb (by simp [z])
      have b2 : b ≠ it := fun z => hb (by simp [z])
      exact (sb.2 b b1).trans (hk b ob b1 b2 q)
    have J := I.turnedNew (ch := [e, it]) (t' := tk + 1) kept hf (Nat.le_refl _) fresh
    refine ⟨.ref s.heap.objs.size, _, J, rfl, ⟨_, x, rfl, I.hok.fresh (Nat.le_refl _), rfl, fun ys hy => by rw [I.tuple_inj hy sq]; exact hx⟩, ⟨⟨u, ?_⟩, st'.1.at fun o q => (sb.2 it (Ne.symm hne)).trans q, hne⟩, fun b hb => ?_⟩
    · rw [show ((i + 1 : Nat) : Int) = (i : Int) + 1 by omega]
      exact he'
    · have lb : b < s.heap.objs.size := by
        rcases two_mem hb with rfl | rfl
        · exact le
        · exact li
      rw [upd_ne (Nat.ne_of_lt lb)]
      exact (hf b hb).1
  done := by
    intro X hP hw hK hc i pins s σ H E I hf st hg
    subst hP hw hK
    obtain ⟨⟨old, he⟩, hit, hne⟩ := st
    obtain ⟨xs, sq, hx⟩ := hg
    obtain ⟨its, vals, tup, _⟩ := I.tuple sq
    have tup : s.heap.IsTuple a its.toArray := tup
    have n_ : its.toArray.size = i := by rw [← hx, vals.length]; simp
    obtain ⟨f0, f1, f2, f3, f4, f5⟩ := hf it (by simp)
    refine wpAny_pyNext_enum_endD (Draws.tuple (A := X.A.in1) (I.ok.hd hc) it a (tup_nit tup hit) its.toArray) he ⟨by rw [n_]; exact hit, tup⟩ fun h' eb => ⟨rfl, I.turned (t' := s.toks) (fun b o hb q => eb b o hb q) f0 f1 f3 f4 f5⟩
  self := fun A i s Q E st h => let ⟨⟨_, he⟩, _⟩ := st; wpAny_pyIter_enum he h
/-- enumerate(e), e a tuple -/
def iEnumP (K : PySem.W.Frag) (ta : TA) : TI := fun σ H R => ta σ H fun vs H1 => ∃ (a : Addr) (xs : List V), vs = [.ref a] ∧ SqT K H1 a xs ∧ R (ItP K a) H1
theorem pi_enumP {X : Cx} {e : Expr} {ta : TA} {p pos tpos : Pos} {elts : List Expr} {kk : Nat} (hg : Gl X "enumerate") (hm : X.mg "enumerate" = none) (ha : PA X [e] ta) (hs : starEach [e] X.env = [(false, eval e X.env)] := by rfl) :
    PI X (.Tuple elts kk tpos) (.Call (.Name "enumerate" p) [e] [] pos) (iEnumP X.K ta) := by
  refine ⟨fun pins s σ H R I want => Call_ (ld_blt I hg hm boot_enumerate (PyProof.Rows.callWith_type1 (thn (ha.run pos pins s σ H _ I want) fun us s1 got => ?_) hs rfl))⟩
  obtain ⟨vs, H1, I1, r1, a, xs, rfl, sq, q⟩ := got
  obtain ⟨its, vals, tup, _⟩ := I1.tuple sq
  cases r1 with
  | cons r rr =>
    cases rr
    cases r
    refine enumTupleBegins (t := a) (items := its.toArray) tup fun h' he hit _ hk => wpAny_pyIter_enum he ?_
    have J : Inv X pins σ H1 { s1 with heap := h' } := I1.kept (t' := s1.toks) hk
    refine ⟨s1.heap.objs.size + 1, [s1.heap.objs.size + 1, s1.heap.objs.size], _, _, H1, rfl, J, turnP a _ _, ⟨⟨.none, he⟩, hit, Nat.succ_ne_self _⟩, fun b hb => ?_, q⟩
    have above : s1.heap.objs.size ≤ b := by
      rcases two_mem hb with rfl | rfl
      · exact Nat.le_succ _
      · exact Nat.le_refl _
    exact I1.fpOk above (I1.hok.fresh above)
theorem walkP {K : PySem.W.Frag} {a : Addr} {xs : List V} : Walk (ItP K a) xs.length (fun H => SqT K H a xs) (YPair (fun i => some (.int (i : Nat))) (fun i => xs[i]?)) := by
  refine ⟨fun i _ hi q => ⟨xs, xs[i], q, List.getElem?_eq_getElem hi⟩, fun _ q => ⟨xs, q, rfl⟩, ?_⟩
  rintro i H v H' _ q ⟨T, x, h1, h2, h3, h4⟩
  exact ⟨T, .int (i : Nat), x, h1, h2, h3, rfl, h4 xs q⟩
end L2
namespace DL
open PySem PySem.Spec L2
open PyProof.Rows hiding St
/-- the items behind their places -/
def enumD : Nat → List D → List D
  | _, [] => []
  | i, d :: ds => .tup [.int (i : Nat), d] :: enumD (i + 1) ds
theorem enumD_len : ∀ {ds : List D} {i : Nat}, (enumD i ds).length = ds.length
  | [], _ => rfl
  | _ :: ds, i => by
    show (enumD (i + 1) ds).length + 1 = ds.length + 1
    rw [enumD_len]
theorem enumD_get : ∀ {ds : List D} {i j : Nat} {d : D}, ds[j]? = some d → (enumD i ds)[j]? = some (.tup [.int ((i + j : Nat) : Int), d])
  | [], _, _, _, h => by simp at h
  | x :: ds, i, 0, d, h => by
    cases h
    rfl
  | x :: ds, i, j + 1, d, h => by
    show (enumD (i + 1) ds)[j]? = _
    rw [enumD_get (by simpa using h), show i + 1 + j = i + (j + 1) by omega]
/-- for i, x in enumerate(t) -/
def dForE (T : TDA) (G : TDG) (B : TDS) : TDS := fun ξ De env => T ξ env fun ds => match ds with
  | [.tup xs] => forD G B ξ De (enumD 0 xs) env
  | _ => False
section
variable {X : Cx} {F : FP} {Tas : TDA} {G : TDG} {B : TDS}
theorem ds_forE {e : Expr} {elts : List Expr} {kk : Nat} {p pos pos' tpos : Pos} {body : List Stmt} (hK : F.K = X.K) (hp : PassesOwn (model X.prog X.w) X.A X.env X.xe) (hc : X.calm = true) (hgl : Gl X "enumerate") (hm : X.mg "enumerate" = none) (ha : PA X [e] (tDA F Tas)) (hg : PG X (.Tuple elts kk tpos) (gD F G)) (hb : PSs X body (sD F B))
    (hsa : starEach [e] X.env = [(false, eval e X.env)] := by rfl) (hs : ∀ x, foldedSetIterable (.Call (.Name "enumerate" p) [e] [] pos') X.env x = pure x := by intro _; rfl) : PS X (.For (.Tuple elts kk tpos) (.Call (.Name "enumerate" p) [e] [] pos') body [] pos) (sD F (dForE Tas G B)) := PS.imp (ps_for hp hc (pi_enumP hgl hm ha hsa) hg hb hs) (by
  rintro De σ H ⟨N, env, Dd, f, hT, ok⟩
  refine ⟨N, env, _, f, hT, fun vs H1 ds e1 r q => ?_⟩
  split at q
  · rename_i xs
    obtain ⟨v, _, rfl, ⟨a, us, rfl, ra, rs⟩, rfl⟩ := r
    have f1 := f.ext' e1
    have ok1 := ok.of (.of f.n e1)
    refine ⟨a, us, rfl, by rw [← hK]; exact sqt_of ra, ?_⟩
    refine for_it (walkP (K := X.K) (a := a) (xs := us)) (fun i σ H' => ∃ N' env', FOk F N' σ H' env' ∧ Evo N H1 N' H' ∧ forD G B F.ex Dd ((enumD 0 xs).drop i) env') ⟨N, env, f1, .refl, q⟩ ?_ ?_ ?_
    · rintro i σ' H' _ ⟨N', env', f', ev, _⟩
      rw [← hK]
      refine sqt_of (N := N') ?_
      rcases ra with ⟨n, ra⟩ | ra
      · obtain ⟨h1, h2⟩ := ev a _ n kp_tup ra
        exact .inl ⟨h2, h1⟩
      · exact .inr ra
    · rintro i x σ' H' H2 hi ⟨N', env', f', ev, q'⟩ ⟨T, x', y', rfl, hT', rfl, g1, g2⟩
      cases g1
      obtain ⟨d, hd, rd⟩ := rs.getV g2
      have lT := f'.n.lay (o := .tup [.int (i : Nat), y']) hT'
      have f2 := f'.ext' lT
      have rd' := Rep.mono ev d y' rd
      have r2 : Rep F.K F.Z N' (upd H' T (.tup [.int (i : Nat), y'])) (.tup [.int ((0 + i : Nat) : Int), d]) (.ref T) := by
        rw [Nat.zero_add]
        exact rep_newT f'.n hT' ⟨_, _, rfl, rep_int, _, _, rfl, rd', rfl⟩
      exact forD_step (fun _ _ _ => Iff.rfl) ok1 f2 (ev.trans (.of f'.n lT)) (enumD_get (i := 0) hd) r2 q'
    · rintro σ' H' ⟨N', env', f', ev, q'⟩
      rw [← rs.length, show xs.length = (enumD 0 xs).length from enumD_len.symm, List.drop_length] at q'
      exact ok1.nx _ _ _ _ f' ev q'
  · exact q.elim)
end
end DL
set_option Elab.async false
set_option linter.all false
set_option maxRecDepth 100000
set_option maxHeartbeats 2000000
/-! tuples just displayed whose objects are known; in and index over data; constants of the module -/
namespace DL
open PySem PySem.Spec L2
open PyProof.Rows hiding St
section
variable {X : Cx} {F : FP} {a b e : Expr} {es : List Expr} {Ta Tb : TDE} {Tas : TDA} {pos p : Pos}
/-- a display whose object is told -/
def tTupF (t : TA) : TE := fun σ H Q => t σ H fun xs H1 => xs.length ≤ sizeLine ∧ ∀ (q : Addr) (o : Obj), o.dict = none → H1 q = none → Q (.ref q) (upd H1 q (.frz o (.tup xs)))
theorem pe_tupF {x1 : _} {t : TA} (h : PA X es t) : PE X (.Tuple es x1 pos) (tTupF t) := by
  refine ⟨fun pins s σ H Q I hq => wpAny_Tuple_spliced (thn (h.run pos pins s σ H _ I hq) fun us s1 got => ?_)⟩
  obtain ⟨xs, H1, I1, r, small, q⟩ := got
  refine ⟨by rw [← r.length]; exact small, ?_⟩
  have free := I1.hok.fresh (Nat.le_refl s1.heap.objs.size)
  generalize ho : ({ cls := .type "tuple", data := .seq us.toArray } : Obj) = o
  have at_ : (s1.heap.push o).get? s1.heap.objs.size = some o := Heap.get?_push_size _ (by rw [← ho]; rfl)
  have new : ObjOk X.prog X.w (upd H1 s1.heap.objs.size (.frz o (.tup xs))) (s1.heap.push o) s1.heap.objs.size (.frz o (.tup xs)) :=
    ⟨at_, small, us, r, ⟨o, at_, by rw [← ho], _, by rw [← ho]⟩⟩
  have J := I1.laid (t' := s1.toks) (fun _ _ e => Heap.get?_push_of_some _ e) (Nat.le_refl _) new
  subst ho
  exact ⟨.ref s1.heap.objs.size, _, J, rfl, q _ _ rfl free⟩
/-- a tuple displayed, its object known -/
def dTupK (T : TDA) : TDE := fun ξ env Q => T ξ env fun ds => ds.length ≤ sizeLine ∧ Q (.kt ds)
theorem d_tupK {x1 : _} (h : PA X es (tDA F Tas)) : PE X (.Tuple es x1 pos) (tD F (dTupK Tas)) := PE.imp (pe_tupF h) (by
  rintro σ H Q ⟨N, env, Qd, f, hT, k⟩
  refine ⟨N, env, _, f, hT, fun vs H1 ds e1 r1 q1 => ⟨by rw [← r1.length]; exact q1.1, fun q o od hq => ?_⟩⟩
  have n := (f.ext' e1).n
  refine k _ _ (.kt ds) (e1.trans (n.lay hq)) ⟨q, vs, o, rfl, n.fresh hq, upd_same, od, r1.ext (n.lay hq) n.z⟩ q1.2)
/-- what can be walked as a tuple or a list, compared -/
def itemsD : D → Option (List D)
  | .tup ds => some ds
  | .kt ds => some ds
  | .lst ds => some ds
  | _ => none
def inD (d : D) (ds : List D) : Bool := (toPs ds).any fun z => PyData.eqv z (toP d)
def gInD (neg : Bool) : G2 := fun x y Q => match itemsD y with
  | some ds => (eqOk x = true ∧ eqOk y = true) ∧ Q (.bl (if neg then !inD x ds else inD x ds))
  | none => False
def rInT (K : PySem.W.Frag) (neg : Bool) : R2 := fun x y H Q => ∃ d ds, Dp K H x d ∧ (Dp K H y (.tuple ds) ∨ Dp K H y (.list ds)) ∧ SeqAt.shaped d = true ∧ SeqAt.shaped (.tuple ds) = true ∧ Q (.bl (if neg then !(ds.any fun z => PyData.eqv z d) else ds.any fun z => PyData.eqv z d)) H
theorem shaped_tl {ds : List PyData} : SeqAt.shaped (.list ds) = SeqAt.shaped (.tuple ds) := by
  simp only [SeqAt.shaped, PyData.canLay0, PyData.depth]
  rfl
theorem op_inT (hu : X.A.units + 65 < cLine) : OpR X (compareOp .In) (rInT X.K false) := by
  intro pins s σ H x y v u Q I rx ry h
  obtain ⟨d, ds, hd, he, sd, se, q⟩ := h
  obtain ⟨as, r1⟩ := Dp.reads I d x v hd rx
  rcases he with he | he
  · obtain ⟨bs, r2⟩ := Dp.reads I (.tuple ds) y u he ry
    exact SeqAt.in_tuple_reads r2 r1 (SeqAt.canLay_of_shaped se) (SeqAt.canLay_of_shaped sd) (room_in_shaped sd hu) ⟨.bl _, H, I, rfl, q⟩
  · obtain ⟨bs, r2⟩ := Dp.reads I (.list ds) y u he ry
    exact SeqAt.in_list_reads r2 r1 (SeqAt.canLay_of_shaped se) (SeqAt.canLay_of_shaped sd) (room_in_shaped sd hu) ⟨.bl _, H, I, rfl, q⟩
theorem op_ninT (hu : X.A.units + 65 < cLine) : OpR X (compareOp .NotIn) (rInT X.K true) := by
  intro pins s σ H x y v u Q I rx ry h
  obtain ⟨d, ds, hd, he, sd, se, q⟩ := h
  obtain ⟨as, r1⟩ := Dp.reads I d x v hd rx
  rcases he with he | he
  · obtain ⟨bs, r2⟩ := Dp.reads I (.tuple ds) y u he ry
    exact SeqAt.notIn_tuple_reads r2 r1 (SeqAt.canLay_of_shaped se) (SeqAt.canLay_of_shaped sd) (room_in_shaped sd hu) ⟨.bl _, H, I, rfl, q⟩
  · obtain ⟨bs, r2⟩ := Dp.reads I (.list ds) y u he ry
    exact SeqAt.notIn_list_reads r2 r1 (SeqAt.canLay_of_shaped se) (SeqAt.canLay_of_shaped sd) (room_in_shaped sd hu) ⟨.bl _, H, I, rfl, q⟩
theorem opd_inD (neg : Bool) : OpD F (rInT F.K neg) (gInD neg) := ⟨by
  intro N H x y dx dy Qd Q n rx ry h k
  unfold gInD at h
  split at h
  · rename_i ds hds
    obtain ⟨⟨h1, h2⟩, q⟩ := h
    obtain ⟨p1, s1⟩ := Bool.and_eq_true_iff.mp h1
    obtain ⟨p2, s2⟩ := Bool.and_eq_true_iff.mp h2
    have r1 := Rep.dp dx x p1 rx
    have r2 := Rep.dp dy y p2 ry
    cases dy <;> first | (cases hds; done) | skip
    · cases hds
      exact ⟨_, toPs ds, r1, .inl r2, s1, s2, k _ _ _ Ext.refl rep_bl q⟩
    · cases hds
      exact ⟨_, toPs ds, r1, .inr r2, s1, by rw [← shaped_tl]; exact s2, k _ _ _ Ext.refl rep_bl q⟩
    · cases hds
      exact ⟨_, toPs ds, r1, .inl r2, s1, s2, k _ _ _ Ext.refl rep_bl q⟩
  · exact h.elim⟩
theorem d_inD (hK : F.K = X.K) (hu : X.A.units + 65 < cLine) (ha : PE X a (tD F Ta)) (hb : PE X b (tD F Tb)) (hm : behindInMarks .In b = false := by rfl) : PE X (.Compare a [.In] [b] pos) (tD F (dBin (gInD false) Ta Tb)) := by
  have o := opd_inD (F := F) false
  rw [hK] at o
  exact d_cmp (op_inT hu) o ha hb hm
theorem dt_inD (hK : F.K = X.K) (hu : X.A.units + 65 < cLine) (ha : PE X a (tD F Ta)) (hb : PE X b (tD F Tb)) (hm : behindInMarks .In b = false := by rfl) : PT X (.Compare a [.In] [b] pos) (tDT F (dTest (dBin (gInD false) Ta Tb))) := by
  have o := opd_inD (F := F) false
  rw [hK] at o
  exact dt_cmp (op_inT hu) o ha hb hm
theorem d_ninD (hK : F.K = X.K) (hu : X.A.units + 65 < cLine) (ha : PE X a (tD F Ta)) (hb : PE X b (tD F Tb)) (hm : behindInMarks .NotIn b = false := by rfl) : PE X (.Compare a [.NotIn] [b] pos) (tD F (dBin (gInD true) Ta Tb)) := by
  have o := opd_inD (F := F) true
  rw [hK] at o
  exact d_cmp (op_ninT hu) o ha hb hm
theorem dt_ninD (hK : F.K = X.K) (hu : X.A.units + 65 < cLine) (ha : PE X a (tD F Ta)) (hb : PE X b (tD F Tb)) (hm : behindInMarks .NotIn b = false := by rfl) : PT X (.Compare a [.NotIn] [b] pos) (tDT F (dTest (dBin (gInD true) Ta Tb))) := by
  have o := opd_inD (F := F) true
  rw [hK] at o
  exact dt_cmp (op_ninT hu) o ha hb hm
/-! ### t.index(x), the tuple's object known -/
def idxD (d : D) (ds : List D) : Option Nat := (toPs ds).findIdx? fun z => PyData.eqv z (toP d)
def dIdx (Ta Tb : TDE) : TDE := fun ξ env Q => Ta ξ env fun x => match x with
  | .kt ds => Tb ξ env fun y => (eqOk x = true ∧ eqOk y = true) ∧ match idxD y ds with
    | some j => Q (.int (j : Nat))
    | none => False
  | _ => False
def rIdx (K : PySem.W.Frag) : V → V → Hp → VK → Prop := fun x y H Q => ∃ (a : Addr) (d : PyData) (ds : List PyData) (j : Nat), x = V.ref a ∧ Dp K H x (.tuple ds) ∧ Dp K H y d ∧
  SeqAt.shaped (.tuple ds) = true ∧ SeqAt.shaped d = true ∧ (ds.findIdx? fun z => PyData.eqv z d) = some j ∧ Q (.int (j : Nat)) H
theorem run_idx {pins : List (Addr × Obj)} {s : Shared} {σ : L2.St} {H : Hp} {x y : V} {v u : Value} {Q : VK} (hu : X.A.units + 65 < cLine) (I : L2.Inv X pins σ H s) (rx : RelV x v) (ry : RelV y u) (h : rIdx X.K x y H Q) :
    wpAny (model X.prog X.w) X.A (call (.builtin "tuple.index") [v, u]) (EP X pins σ Q) X.xe s := by
  obtain ⟨a, d, ds, j, rfl, hl, hy, sl, sd, hj, q⟩ := h
  cases rx
  obtain ⟨bs, r1⟩ := Dp.reads I d y u hy ry
  have lay := SeqAt.canLay_of_shaped sl
  cases hl with
  | tup hs ha =>
    obtain ⟨its, rv, ⟨⟨cls, dd, data, sls⟩, at_, hc, n, hdt⟩, _⟩ := I.tuple hs
    simp only at hc hdt
    subst hc hdt
    obtain ⟨as, rd⟩ := Dp.readsAll I ds _ its ha rv
    have same : its.map (SeqAt.readOf s.heap) = ds := SeqAt.readsAll_map ds its as lay rd
    obtain ⟨hjd, hit, hno⟩ := List.findIdx?_eq_some_iff_getElem.mp hj
    have el : ∀ (m : Nat) (hm : m < its.toArray.size) (hm2 : m < ds.length), SeqAt.readOf s.heap its.toArray[m] = ds[m] := by
      intro m hm hm2
      have hml : m < its.length := by simpa using hm
      have e1 : (its.map (SeqAt.readOf s.heap))[m]? = some ds[m] := by rw [same]; exact List.getElem?_eq_getElem hm2
      rw [List.getElem?_map, List.getElem?_eq_getElem hml] at e1
      simpa using Option.some.inj e1
    have len : its.length = ds.length := by rw [← same, List.length_map]
    have hja : j < its.toArray.size := by rw [List.size_toArray, len]; exact hjd
    refine call_meets PySem.F.slot_tuple_index ⟨_, at_, rfl⟩ PySem.F.entry_tuple_index (PySem.F.args_tuple_index_2 _ _)
      (TI.tuple_indexAt a its.toArray n dd sls u (fun w => PyData.eqv (SeqAt.readOf s.heap w) d) j hja ?_ ?_)
      ⟨at_, SeqAt.items_eqAt (vs := its.toArray) (show ReadsAll s.heap its.toArray.toList ds as from rd) r1 lay (SeqAt.canLay_of_shaped sd) (room_in_shaped sd hu), .int (j : Nat), H, I.tok _, ⟨_, rfl⟩, q⟩
    · show PyData.eqv (SeqAt.readOf s.heap its.toArray[j]) d = true
      rw [el j hja hjd]
      exact hit
    · intro m hm lt
      have hm2 : m < ds.length := by rw [← len]; simpa using hm
      show PyData.eqv (SeqAt.readOf s.heap its.toArray[m]) d = false
      rw [el m hm hm2]
      exact Bool.eq_false_iff.mpr (hno m lt)
def tIdx (K : PySem.W.Frag) (ta : TE) (t : TA) : TE := fun σ H Q => ta σ H fun x H1 => (∃ (a : Addr) (o : Obj) (vs : List V), x = .ref a ∧ H1 a = some (.frz o (.tup vs)) ∧ o.dict = none) ∧ t σ H1 fun ys H2 => ∃ y, ys = [y] ∧ rIdx K x y H2 Q
theorem pe_idx {o e : Expr} {to : TE} {t : TA} {apos cpos : Pos} (hu : X.A.units + 65 < cLine) (ho : PE X o to) (ha : PA X [e] t) (hbase : attributeBase o "index" X.env (eval o X.env) = eval o X.env := by rfl)
    (hfew : ((backTo cpos (starEach [e] X.env)).all (fun x => !x.1) && (backToKw cpos (keywordEach [] X.env)).all (fun x => x.1.isSome) && decide ([e].length + ([] : List Keyword).length + (if ([] : List Keyword).isEmpty then 0 else 1) < 30)) = true := by rfl)
    (hline : (apos.endLine == cpos.line) = true := by rfl) (hs : starEach [e] X.env = (false, eval e X.env) :: starEach [] X.env := by rfl) (hplain : (backTo cpos (starEach [] X.env)).any (·.1) = false := by rfl) :
    PE X (.Call (.Attribute o "index" apos) [e] [] cpos) (tIdx X.K to t) := by
  refine ⟨fun pins s σ H Q I h => wpAny_Call_method_late hbase hfew hline rfl (thn (ho.run pins s σ H _ I h) fun v s1 got => ?_)⟩
  obtain ⟨x, H1, I1, r1, ⟨a, ob, vs, rfl, hf, od⟩, q1⟩ := got
  cases r1
  obtain ⟨at_, _, its, _, o2, p2, c2, _⟩ := I1.hok a _ hf
  rw [at_] at p2
  cases p2
  refine ⟨"tuple", "tuple.index", PySem.F.plainAttrs_tuple, PySem.F.slot_tuple_index, PySem.F.type_tuple_index, ⟨_, at_, c2⟩, fun b eb => by cases eb; exact ⟨_, at_, od⟩, ?_⟩
  have args := ha.run cpos pins s1 σ H1 _ I1 q1
  rw [hs] at args ⊢
  refine Calls.callWith_builtin (by show (false || (backTo cpos (starEach [] X.env)).any (·.1)) = false; rw [hplain] <;> rfl) (Calls.evalArgs_plain (thn args fun us s2 got => ?_))
  obtain ⟨ys, H2, I2, r2, y, rfl, q2⟩ := got
  cases r2 with
  | cons ry rest =>
    cases rest
    exact run_idx (x := .ref a) hu I2 rfl ry q2
theorem d_index {o e : Expr} {apos cpos : Pos} (hK : F.K = X.K) (hu : X.A.units + 65 < cLine) (ho : PE X o (tD F Ta)) (he : PE X e (tD F Tb)) (hbase : attributeBase o "index" X.env (eval o X.env) = eval o X.env := by rfl)
    (hfew : ((backTo cpos (starEach [e] X.env)).all (fun x => !x.1) && (backToKw cpos (keywordEach [] X.env)).all (fun x => x.1.isSome) && decide ([e].length + ([] : List Keyword).length + (if ([] : List Keyword).isEmpty then 0 else 1) < 30)) = true := by rfl)
    (hline : (apos.endLine == cpos.line) = true := by rfl) (hs : starEach [e] X.env = (false, eval e X.env) :: starEach [] X.env := by rfl) (hplain : (backTo cpos (starEach [] X.env)).any (·.1) = false := by rfl) :
    PE X (.Call (.Attribute o "index" apos) [e] [] cpos) (tD F (dIdx Ta Tb)) := PE.imp (pe_idx hu ho (da_cons he da_nil hs) hbase hfew hline hs hplain) (by
  rintro σ H Q ⟨N, env, Qd, f, hT, k⟩
  refine ⟨N, env, _, f, hT, fun x H1 dx e1 r1 q1 => ?_⟩
  split at q1
  · rename_i ds
    have r0 := r1
    obtain ⟨a, vs, ob, rfl, na, hf, od, rs⟩ := r1
    have f1 := f.ext' e1
    refine ⟨⟨a, ob, vs, rfl, hf, od⟩, N, env, (fun l => match l with
      | [y] => (eqOk (.kt ds) = true ∧ eqOk y = true) ∧ match idxD y ds with
        | some j => Qd (.int (j : Nat))
        | none => False
      | _ => False), f1, q1, fun ys H2 es e2 r2 q2 => ?_⟩
    dsimp only at q2
    split at q2
    · rename_i dy
      obtain ⟨y, _, rfl, ry, z⟩ := r2
      cases z
      obtain ⟨⟨h1, h2⟩, q⟩ := q2
      split at q
      · rename_i j hj
        obtain ⟨p1, s1⟩ := Bool.and_eq_true_iff.mp h1
        obtain ⟨p2, s2⟩ := Bool.and_eq_true_iff.mp h2
        have d1 := Rep.dp (.kt ds) _ p1 (r0.ext e2 f1.n.z)
        have d2 := Rep.dp dy _ p2 ry
        rw [hK] at d1 d2
        exact ⟨y, rfl, a, toP dy, toPs ds, j, rfl, d1, d2, s1, s2, hj, k _ _ _ (e1.trans e2) rep_int q⟩
      · exact q.elim
    · exact q2.elim
  · exact q1.elim)
/-! ### is not None -/
def gNotN : G2 := fun x y Q => match y with
  | .non => Q (.bl (!isNo x))
  | _ => False
theorem opd_notN : OpD F (fun x y H Q => y = .non ∧ Q (.bl (!decide (x = .non))) H) gNotN := ⟨by
  intro N H x y dx dy Qd Q n rx ry h k
  unfold gNotN at h
  split at h
  · cases (show y = .non from ry)
    refine ⟨rfl, k _ _ _ Ext.refl rep_bl ?_⟩
    rw [isNo_rep rx]
    exact h
  · exact h.elim⟩
theorem d_notN (ha : PE X a (tD F Ta)) (hb : PE X b (tD F Tb)) (hm : behindInMarks .IsNot b = false := by rfl) : PE X (.Compare a [.IsNot] [b] pos) (tD F (dBin gNotN Ta Tb)) := d_cmp op_notN opd_notN ha hb hm
theorem dt_notN (ha : PE X a (tD F Ta)) (hb : PE X b (tD F Tb)) (hm : behindInMarks .IsNot b = false := by rfl) : PT X (.Compare a [.IsNot] [b] pos) (tDT F (dTest (dBin gNotN Ta Tb))) := dt_cmp op_notN opd_notN ha hb hm
/-! ### constants of the module -/
theorem d_gstr {x s : Str} (hg : Gl X x) (hm : ∃ t, X.mg x = some (.str s t)) (hd : (x == ("__debug__" : Str)) = false := by decide) : PE X (.Name x pos) (tD F (dC (.str s))) := by
  obtain ⟨t, hm⟩ := hm
  exact d_const (v := .str s) (pe_glob hg hm ⟨t, rfl⟩ hd) fun _ _ => rfl
theorem d_gint {x : Str} {i : Int} (hg : Gl X x) (hm : ∃ t, X.mg x = some (.int i t)) (hd : (x == ("__debug__" : Str)) = false := by decide) : PE X (.Name x pos) (tD F (dC (.int i))) := by
  obtain ⟨t, hm⟩ := hm
  exact d_const (v := .int i) (pe_glob hg hm ⟨t, rfl⟩ hd) fun _ _ => rfl
end
def gstrB (K : PySem.W.Frag) (n s : Str) : Bool := match PySem.W.nsIn K mainGlobals n with
  | some (some (.str x _)) => decide (x = s)
  | _ => false
theorem gstr_ok {K : PySem.W.Frag} {h : Heap} {mg : Str → Option Value} (X : K.In h) (G : h.Ns mainGlobals mg) {n s : Str} (c : gstrB K n s = true) : ∃ t, mg n = some (.str s t) := by
  unfold gstrB at c
  split at c
  · rename_i x t e
    cases of_decide_eq_true c
    exact ⟨t, PySem.W.mg_of X G e⟩
  · cases c
def gintB (K : PySem.W.Frag) (n : Str) (i : Int) : Bool := match PySem.W.nsIn K mainGlobals n with
  | some (some (.int x _)) => decide (x = i)
  | _ => false
theorem gint_ok {K : PySem.W.Frag} {h : Heap} {mg : Str → Option Value} (X : K.In h) (G : h.Ns mainGlobals mg) {n : Str} {i : Int} (c : gintB K n i = true) : ∃ t, mg n = some (.int i t) := by
  unfold gintB at c
  split at c
  · rename_i x t e
    cases of_decide_eq_true c
    exact ⟨t, PySem.W.mg_of X G e⟩
  · cases c
end DL
namespace DL
open PySem PySem.Spec L2
theorem u65 {k : Nat} {A : Around} (r : Room k A) : A.units + 65 < cLine := Nat.lt_of_le_of_lt (Nat.add_le_add_left (by decide) _) (units80 r)
end DL
set_option Elab.async false
set_option linter.all false
set_option maxRecDepth 100000
set_option maxHeartbeats 2000000
/-! defaults, comprehensions over zip on one line, a < b < c < d -/
namespace DL
open PySem PySem.Spec L2
open PyProof.Rows hiding St
section
variable {X : Cx} {F : FP} {k n : Nat} {f : Addr} {fd : FuncData} {ps : List Str} {T : TF} {Tas : TDA} {x : Str} {p pos : Pos} {e : Expr} {es : List Expr} {dvs : List V} {dflt : List D}
/-- f(e, ..): the defaults fill up -/
def dCallD (n : Nat) (dflt : List D) (T : TF) (Ta : TDA) : TDE := fun ξ env Q => Ta ξ env fun ds => (ds ++ dflt).length = n ∧ T (fun _ => False) (ds ++ dflt) Q
theorem tCallD_imp (hK : F.K = X.K) (hdv : ∀ (Z : Zn) (N : Addr → Prop) (H : Hp), Reps X.K Z N H dflt dvs) : ∀ σ H Q, tD F (dCallD n dflt T Tas) σ H Q → tCall (spD X.K n T) dvs E0 (tDA F Tas) σ H Q := by
  rintro σ H Q ⟨N, env, Qd, f, hT, k⟩
  refine ⟨N, env, _, f, hT, fun vs H1 ds e1 r1 q1 => ?_⟩
  have n1 := (f.ext' e1).n
  refine ⟨F.Z, N, ds ++ dflt, Qd, _, by rw [← hK]; exact n1.bok, Reps.append (by rw [← hK]; exact r1) (hdv _ _ _), q1.1, q1.2, fun v H2 d e2 r2 q2 => k v H2 d (e1.trans e2) (by rw [hK]; exact r2) q2, fun _ _ _ _ _ _ z => z⟩
theorem d_callD (G : FnG X.prog X.w X.K X.mg X.base CX0 k f fd ps (spD X.K n T)) (hK : F.K = X.K) (hr : RoomG k X.A) (hg : Gl X x) (hm : X.mg x = some (.ref f)) (hk : PySem.W.keepIn X.K (.ref f) = true) (hb : ∃ ds, Vals dvs ds ∧ Binds X.K fd ps ds) (hdv : ∀ (Z : Zn) (N : Addr → Prop) (H : Hp), Reps X.K Z N H dflt dvs)
    (ha : PA X (e :: es) (tDA F Tas)) (hdb : (x == ("__debug__" : Str)) = false := by decide) (he : starEach (e :: es) X.env = (false, eval e X.env) :: starEach es X.env := by rfl) (hpl : (backTo pos (starEach es X.env)).any (·.1) = false := by rfl) :
    PE X (.Call (.Name x p) (e :: es) [] pos) (tD F (dCallD n dflt T Tas)) := by
  obtain ⟨ds, hd, hb⟩ := hb
  exact PE.imp (pe_callG G hr hg hm hk hb hd pass0 ha hdb he hpl) (tCallD_imp hK hdv)
theorem bD_full {K : PySem.W.Frag} (h : ∃ ds, Vals (([] : List V)) ds ∧ Binds K fd ps ds) : Binds K fd ps [] := by
  obtain ⟨ds, hd, hb⟩ := h
  cases hd
  exact hb
end
section
variable {X : Cx} {F : FP} {a b c d : Expr} {pos : Pos} {ta tb tc td : TE} {Ta Tb Tc Td : TDE}
def tChain3 (r r' r'' : R2) (ta tb tc td : TE) : TE := fun σ H Q => ta σ H fun x H1 => tb σ H1 fun y H2 => r x y H2 fun z H3 => ∃ k, z = .bl k ∧
  (if k = true then tc σ H3 fun w' H4 => r' y w' H4 fun z H5 => ∃ k, z = .bl k ∧ (if k = true then td σ H5 fun v H6 => r'' w' v H6 Q else Q (.bl false) H5) else Q (.bl false) H3)
theorem pe_chain3 {op op' op'' : CmpOp} {r r' r'' : R2} (ho : OpR X (compareOp op) r) (ho' : OpR X (compareOp op') r') (ho'' : OpR X (compareOp op'') r'') (ha : PE X a ta) (hb : PE X b tb) (hc : PE X c tc) (hd : PE X d td)
    (hm : lastMarks [op, op', op''] [b, c, d] = false := by with_unfolding_all rfl) : PE X (.Compare a [op, op', op''] [b, c, d] pos) (tChain3 r r' r'' ta tb tc td) := by
  refine ⟨fun pins s σ H Q I h => ?_⟩
  refine Compare_chain (thn (ha.run pins s σ H _ I h) fun v s1 ⟨x, H1, I1, r1, q1⟩ => chain_link (thn (hb.run pins s1 σ H1 _ I1 q1) fun u s2 ⟨y, H2, I2, r2, q2⟩ =>
    thn (ho pins s2 σ H2 x y v u _ I2 r1 r2 q2) fun d s3 ⟨z, H3, I3, r3, k, e, q3⟩ => ?_)) hm
  subst e
  cases r3
  refine wpAny_truthy_bool ?_
  cases k with
  | false => exact ite_ff ⟨.bl false, H3, I3, rfl, q3⟩
  | true =>
    refine ite_tt (chain_link (thn (hc.run pins s3 σ H3 _ I3 q3) fun w' s4 ⟨z', H4, I4, r4, q4⟩ => thn (ho' pins s4 σ H4 y z' u w' _ I4 r2 r4 q4) fun d s5 ⟨z, H5, I5, r5, k, e, q5⟩ => ?_))
    subst e
    cases r5
    refine wpAny_truthy_bool ?_
    cases k with
    | false => exact ite_ff ⟨.bl false, H5, I5, rfl, q5⟩
    | true => exact ite_tt (chain_last (thn (hd.run pins s5 σ H5 _ I5 q5) fun v' s6 ⟨x6, H6, I6, r6, q6⟩ => ho'' pins s6 σ H6 z' x6 w' v' Q I6 r4 r6 q6))
def dChain3 (g g' g'' : G2) (Ta Tb Tc Td : TDE) : TDE := fun ξ env Q => Ta ξ env fun x => Tb ξ env fun y => g x y fun z => match z with
  | .bl true => Tc ξ env fun w => g' y w fun z => match z with
    | .bl true => Td ξ env fun v => g'' w v Q
    | .bl false => Q (.bl false)
    | _ => False
  | .bl false => Q (.bl false)
  | _ => False
theorem chain3_imp {r r' r'' : R2} {g g' g'' : G2} (hg : OpD F r g) (hg' : OpD F r' g') (hg'' : OpD F r'' g'') : ∀ σ H Q, tD F (dChain3 g g' g'' Ta Tb Tc Td) σ H Q → tChain3 r r' r'' (tD F Ta) (tD F Tb) (tD F Tc) (tD F Td) σ H Q := by
  rintro σ H Q ⟨N, env, Qd, f, hT, k⟩
  refine ⟨N, env, _, f, hT, fun x H1 dx e1 rx q1 => ⟨N, env, _, f.ext' e1, q1, fun y H2 dy e2 ry q2 => ?_⟩⟩
  have f2 := (f.ext' e1).ext' e2
  refine hg.ok N H2 x y dx dy _ _ f2.n (rx.ext e2 f.n.z) ry q2 fun v H3 d e3 r3 q3 => ?_
  have f3 := f2.ext' e3
  have e := (e1.trans e2).trans e3
  split at q3
  · refine ⟨true, r3, ?_⟩
    rw [if_pos rfl]
    refine ⟨N, env, _, f3, q3, fun w H4 dw e4 rw' q4 => hg'.ok N H4 y w dy dw _ _ (f3.ext' e4).n (ry.ext (e3.trans e4) f.n.z) rw' q4 fun v H5 d5 e5 r5 q5 => ?_⟩
    have f5 := (f3.ext' e4).ext' e5
    split at q5
    · refine ⟨true, r5, ?_⟩
      rw [if_pos rfl]
      exact ⟨N, env, _, f5, q5, fun v H6 dv e6 rv q6 => hg''.ok N H6 w v dw dv _ _ (f5.ext' e6).n (rw'.ext (e5.trans e6) f.n.z) rv q6 fun v H7 d7 e7 r7 q7 => k v H7 d7 ((((e.trans e4).trans e5).trans e6).trans e7) r7 q7⟩
    · refine ⟨false, r5, ?_⟩
      rw [if_neg Bool.false_ne_true]
      exact k _ _ _ ((e.trans e4).trans e5) rep_bl q5
    · exact q5.elim
  · refine ⟨false, r3, ?_⟩
    rw [if_neg Bool.false_ne_true]
    exact k _ _ _ e rep_bl q3
  · exact q3.elim
theorem d_chain3 {op op' op'' : CmpOp} {r r' r'' : R2} {g g' g'' : G2} (ho : OpR X (compareOp op) r) (ho' : OpR X (compareOp op') r') (ho'' : OpR X (compareOp op'') r'') (hg : OpD F r g) (hg' : OpD F r' g') (hg'' : OpD F r'' g'') (ha : PE X a (tD F Ta)) (hb : PE X b (tD F Tb)) (hc : PE X c (tD F Tc)) (hd : PE X d (tD F Td))
    (hm : lastMarks [op, op', op''] [b, c, d] = false := by with_unfolding_all rfl) : PE X (.Compare a [op, op', op''] [b, c, d] pos) (tD F (dChain3 g g' g'' Ta Tb Tc Td)) := PE.imp (pe_chain3 ho ho' ho'' ha hb hc hd hm) (chain3_imp hg hg' hg'')
end
/-! ### x = [.. for a, b in zip(..)] on one line -/
section
variable {X : Cx} {F : FP} {Tas : TDA} {tt : TDT} {te : TDE} {i j l : Nat} {y : Str} {a b elt : Expr} {elts ifs : List Expr} {kk : Nat} {scope : Scope} {own : List (Str × Nat)} {pos p pos' tpos spos py : Pos}
theorem ds_setLcZ (hK : F.K = X.K) (hc : X.calm = true) (hN : X.N.Nodup) (hjl : j ≠ l) (hgl : Gl X "zip") (hm : X.mg "zip" = none) (ha : PA X [a, b] (tDA F Tas)) (ok : BlkOk X.N X.env.scope scope own) (hv : own.map (·.2) = [j, l]) (hy : X.N[i]? = some y) (hyl : X.env.scope.names.lookup y = some .local)
    (hsw : swapsWith (.ListComp elt [⟨.Tuple elts kk tpos, .Call (.Name "zip" p) [a, b] [] pos', ifs, 0⟩] scope pos) (some (.Name y py)) spos.line X.env = pure true)
    (hg : ∀ (s : Shared) (H : Hp) (C : Addr) (cl : List (Str × Addr)) (fp : List Addr), PG (X.blk s H scope (compEnvC scope cl C X.env) fp) (.Tuple elts kk tpos) (rZ X.K j l)) (ht : ∀ (s : Shared) (H : Hp) (C : Addr) (cl : List (Str × Addr)) (fp : List Addr), PTs (X.blk s H scope (compEnvC scope cl C X.env) fp) ifs (tDT F.calm tt))
    (he : ∀ (s : Shared) (H : Hp) (C : Addr) (cl : List (Str × Addr)) (fp : List Addr), PE (X.blk s H scope (compEnvC scope cl C X.env) fp) elt (tD F.calm te)) (hs1 : starEach [a, b] X.env = (false, eval a X.env) :: starEach [b] X.env := by rfl) (hpl : (backTo pos' (starEach [b] X.env)).any (·.1) = false := by rfl)
    (hs : ∀ x, foldedSetIterable (.Call (.Name "zip" p) [a, b] [] pos') X.env x = pure x := by intro _; rfl) :
    PS X (.Assign [.Name y py] (.ListComp elt [⟨.Tuple elts kk tpos, .Call (.Name "zip" p) [a, b] [] pos', ifs, 0⟩] scope pos) spos) (sD F (dAsg (dLcZ Tas j l tt te) (dgName i))) := by
  have z := ps_setLc hc hN hy hyl hsw (RZ.pi_zipA hgl hm ha hs1 hpl) ok hg ht he hs
  rw [hv] at z
  exact PS.imp z (setLc_imp (by rw [← hK]; exact lcZ_imp hjl))
def lLcZ (T : TDA) (j l : Nat) (tt : TDT) (te : TDE) : TDL := fun ξ env Q => T ξ env fun ds => match ds with
  | [.tup xs, .tup ys] => (xs.length = ys.length ∧ xs.length ≤ sizeLine) ∧ lcD (gZ j l) tt te (wipeD env [j, l]) (zipD xs ys) Q
  | _ => False
theorem lc_endLZ {N : Addr → Prop} {σ : L2.St} {H0 H1 H' : Hp} {env env0 : SE} {A : Addr} {all : List D} {Ql : List D → Prop} (f : FOk F N σ H1 env) (hA : H1 A = none) {G : TDG} {Q : VK} (f0 : FOk F N σ H0 env) (e : Ext F.Z H0 H1)
    (k : ∀ p vs H' ds, NewL F N σ H0 env p vs H' ds → Ql ds → Q (.ref p) H') {n : Nat} (hn : all.length = n) (L : LcAt F N H1 A G tt te env0 all (fun d => match d with | .lst ds => Ql ds | _ => False) n H') : Q (.ref A) H' := by
  obtain ⟨ext, acc, ds, h1, h2, h3, h4⟩ := L
  rw [← hn, List.drop_length] at h4
  have h4 : Ql (ds ++ []) := h4
  rw [List.append_nil] at h4
  exact k A acc H' ds ⟨e.trans ext, f.with' kp_lst hA ext h1, h1, f.nb hA, h3, f.ap (f.n.fresh hA), f0.n.fr e hA⟩ h4
theorem lcZ_impL (hjl : j ≠ l) : ∀ σ H Q, tDL F (lLcZ Tas j l tt te) σ H Q → tLc (RZ.iZipA F.K (tDA F Tas)) (rZ F.K j l) (tDT F.calm tt) (tD F.calm te) [j, l] σ H Q := by
  rintro σ H Q ⟨N, env, Qd, f, hT, k⟩
  refine ⟨N, env, _, f, hT, fun vs H1 ds e1 r q => ?_⟩
  split at q
  · rename_i xs ys
    obtain ⟨v1, _, rfl, ⟨a, us, rfl, ra, rs⟩, v2, _, rfl, ⟨b, ws, rfl, rb, rs2⟩, rfl⟩ := r
    have f1 := f.ext' e1
    obtain ⟨⟨hl, hz⟩, q⟩ := q
    have l1 := rs.length
    have l2 := rs2.length
    have lz : (zipD xs ys).length = us.length := by rw [zipD_len hl, l1]
    refine ⟨a, b, us, ws, rfl, .inr ⟨sqt_of ra, sqt_of rb, fun A hA => ?_⟩⟩
    refine ⟨fun i m H' => m = us.length - i ∧ i ≤ us.length ∧ LcAt F N H1 A (gZ j l) tt te (wipeD env [j, l]) (zipD xs ys) (fun d => match d with | .lst ds => Qd ds | _ => False) i H', ⟨us.length, rfl, Nat.zero_le _, lc_start f1.n hA q⟩, ?_⟩
    rintro i m H' ⟨rfl, hi, L⟩
    have qa : SqT F.K H' a us := by
      refine sqt_of (N := N) ?_
      rcases ra with ⟨n, ra⟩ | ra
      · exact .inl ⟨n, L.ext.keep a _ (fun z => n (f.n.z a z)) kp_tup ra⟩
      · exact .inr ra
    have qb : SqT F.K H' b ws := by
      refine sqt_of (N := N) ?_
      rcases rb with ⟨n, rb⟩ | rb
      · exact .inl ⟨n, L.ext.keep b _ (fun z => n (f.n.z b z)) kp_tup rb⟩
      · exact .inr rb
    by_cases hlt : i < us.length
    · have hx : us[i]? = some us[i] := List.getElem?_eq_getElem hlt
      have hlt2 : i < ws.length := by omega
      have hy : ws[i]? = some ws[i] := List.getElem?_eq_getElem hlt2
      refine .inr ⟨⟨us, ws, _, _, qa, qb, hx, hy⟩, fun H2 => LcAt F N H1 A (gZ j l) tt te (wipeD env [j, l]) (zipD xs ys) (fun d => match d with | .lst ds => Qd ds | _ => False) (i + 1) H2, fun H2 p => ⟨us.length - (i + 1), by omega, rfl, hlt, p⟩, ?_⟩
      rintro v H2 ⟨T, x', y', rfl, hT', rfl, g1, g2⟩
      obtain ⟨dx, hdx, rdx⟩ := rs.getV (g1 us qa)
      obtain ⟨dy, hdy, rdy⟩ := rs2.getV (g2 ws qb)
      exact lc_turnZ f1 hA hjl (by omega) (zipD_get hdx hdy) rdx rdy L hT'
    · have e : i = us.length := by omega
      subst e
      exact .inl ⟨⟨us, ws, qa, qb, .inl (Nat.le_refl _)⟩, lc_endLZ f1 hA f e1 k lz L⟩
  · exact q.elim
theorem ds_ownLcZ (hK : F.K = X.K) (hc : X.calm = true) (hN : X.N.Nodup) (hjl : j ≠ l) (hgl : Gl X "zip") (hm : X.mg "zip" = none) (ha : PA X [a, b] (tDA F Tas)) (ok : BlkOk X.N X.env.scope scope own) (hv : own.map (·.2) = [j, l]) (hy : X.N[i]? = some y) (hyl : X.env.scope.names.lookup y = some .local)
    (hsw : swapsWith (.ListComp elt [⟨.Tuple elts kk tpos, .Call (.Name "zip" p) [a, b] [] pos', ifs, 0⟩] scope pos) (some (.Name y py)) spos.line X.env = pure true)
    (hg : ∀ (s : Shared) (H : Hp) (C : Addr) (cl : List (Str × Addr)) (fp : List Addr), PG (X.blk s H scope (compEnvC scope cl C X.env) fp) (.Tuple elts kk tpos) (rZ X.K j l)) (ht : ∀ (s : Shared) (H : Hp) (C : Addr) (cl : List (Str × Addr)) (fp : List Addr), PTs (X.blk s H scope (compEnvC scope cl C X.env) fp) ifs (tDT F.calm tt))
    (he : ∀ (s : Shared) (H : Hp) (C : Addr) (cl : List (Str × Addr)) (fp : List Addr), PE (X.blk s H scope (compEnvC scope cl C X.env) fp) elt (tD F.calm te)) (hs1 : starEach [a, b] X.env = (false, eval a X.env) :: starEach [b] X.env := by rfl) (hpl : (backTo pos' (starEach [b] X.env)).any (·.1) = false := by rfl)
    (hs : ∀ x, foldedSetIterable (.Call (.Name "zip" p) [a, b] [] pos') X.env x = pure x := by intro _; rfl) :
    PS X (.Assign [.Name y py] (.ListComp elt [⟨.Tuple elts kk tpos, .Call (.Name "zip" p) [a, b] [] pos', ifs, 0⟩] scope pos) spos) (sD F (dOwn (lLcZ Tas j l tt te) i)) := by
  have z := ps_setLc hc hN hy hyl hsw (RZ.pi_zipA hgl hm ha hs1 hpl) ok hg ht he hs
  rw [hv] at z
  exact PS.imp z (ownLc_imp (by rw [← hK]; exact lcZ_impL hjl))
end
/-! ### min, max of a list of ints -/
def gExtL (up : Bool) : GA := fun xs Q => match xs with
  | [.lst ds] => match intsOf ds with
    | some ns => 0 < ns.length ∧ ∀ m, m ∈ ns → (∀ y, y ∈ ns → (if up = true then y ≤ m else m ≤ y)) → Q (.int m)
    | none => False
  | _ => False
theorem cd_maxL {F : FP} : CallD F (rMax F.K) (gExtL true) := ⟨by
  intro N H vs ds Qd Q n r h k
  unfold gExtL at h
  split at h
  · rename_i ds
    split at h
    · rename_i ns hb
      obtain ⟨v, r, rfl, h1, h2⟩ := r
      cases h2
      obtain ⟨a, vs, rfl, na, ra, rs⟩ := h1
      rw [intsOf_eq hb] at rs
      rw [rs.ints] at ra
      exact ⟨a, ns, rfl, SqL.of ra, h.1, fun m h1 h2 => k _ _ _ Ext.refl rep_int (h.2 m h1 fun y hy => by rw [if_pos rfl]; exact h2 y hy)⟩
    · exact h.elim
  · exact h.elim⟩
theorem cd_minL {F : FP} : CallD F (rMin F.K) (gExtL false) := ⟨by
  intro N H vs ds Qd Q n r h k
  unfold gExtL at h
  split at h
  · rename_i ds
    split at h
    · rename_i ns hb
      obtain ⟨v, r, rfl, h1, h2⟩ := r
      cases h2
      obtain ⟨a, vs, rfl, na, ra, rs⟩ := h1
      rw [intsOf_eq hb] at rs
      rw [rs.ints] at ra
      exact ⟨a, ns, rfl, SqL.of ra, h.1, fun m h1 h2 => k _ _ _ Ext.refl rep_int (h.2 m h1 fun y hy => by rw [if_neg Bool.false_ne_true]; exact h2 y hy)⟩
    · exact h.elim
  · exact h.elim⟩
end DL
set_option Elab.async false
set_option linter.all false
set_option maxRecDepth 100000
/-! `x != []` for lists of anything: their lengths are compared first -/
namespace DL
open PySem PySem.Spec L2
open PyProof.Rows hiding St
section
variable {X : Cx} {F : FP} {a b : Expr} {Ta Tb : TDE} {pos : Pos}
def rNeL (K : PySem.W.Frag) : R2 := fun x y H Q => ∃ a b vs ws, x = .ref a ∧ y = .ref b ∧ SqL K H a vs ∧ SqL K H b ws ∧ vs.length ≠ ws.length ∧ Q (.bl true) H
theorem op_neL (hu : X.A.units + 64 < cLine) : OpR X (compareOp .NotEq) (rNeL X.K) := by
  intro pins s σ H x y v u Q I rx ry h
  obtain ⟨a, b, vs, ws, rfl, rfl, h1, h2, hn, q⟩ := h
  cases rx
  cases ry
  obtain ⟨i1, r1, l1, _⟩ := I.list h1
  obtain ⟨i2, r2, l2, _⟩ := I.list h2
  have e1 := r1.length
  have e2 := r2.length
  exact SeqAt.RcNeAt.lists_lengths l1.isList l2.isList (by simp; omega) (by omega) X.prog X.w _ _ ⟨.bl _, H, I, rfl, q⟩
def gNeL : G2 := fun x y Q => match x, y with
  | .lst (_ :: _), .lst [] => Q (.bl true)
  | x, y => gNe x y Q
theorem opd_neL : OpD F (fun x y H Q => rNeL F.K x y H Q ∨ (rNeD F.K x y H Q ∨ rNe x y H Q)) gNeL := ⟨by
  intro N H x y dx dy Qd Q n rx ry h k
  unfold gNeL at h
  split at h
  · obtain ⟨a, vs, e1, _, r1, q1⟩ := rx
    obtain ⟨b, ws, e2, _, r2, q2⟩ := ry
    refine .inl ⟨a, b, vs, ws, e1, e2, .of r1, .of r2, ?_, k _ _ _ Ext.refl rep_bl h⟩
    rw [← q1.length, ← q2.length]
    simp
  · exact .inr ((opd_ne (F := F)).ok N H x y _ _ Qd Q n rx ry h k)⟩
theorem d_neL (hK : F.K = X.K) (hu : X.A.units + 64 < cLine) (ha : PE X a (tD F Ta)) (hb : PE X b (tD F Tb)) : PE X (.Compare a [.NotEq] [b] pos) (tD F (dBin gNeL Ta Tb)) := by
  have o := opd_neL (F := F)
  rw [hK] at o
  exact d_cmp ((op_neL hu).or ((op_neD hu).or op_ne)) o ha hb (nomark _)
theorem dt_neL (hK : F.K = X.K) (hu : X.A.units + 64 < cLine) (ha : PE X a (tD F Ta)) (hb : PE X b (tD F Tb)) : PT X (.Compare a [.NotEq] [b] pos) (tDT F (dTest (dBin gNeL Ta Tb))) := by
  have o := opd_neL (F := F)
  rw [hK] at o
  exact dt_cmp ((op_neL hu).or ((op_neD hu).or op_ne)) o ha hb (nomark _)
end
theorem neL {ds : List D} {Q : D → Prop} (q : Q (.bl (!ds.isEmpty))) : gNeL (.lst ds) (.lst []) Q := by
  cases ds with
  | nil => exact ⟨⟨by decide +kernel, by decide +kernel⟩, q⟩
  | cons d ds => exact q
end DL
set_option Elab.async false
set_option linter.all false
set_option maxRecDepth 100000
/-! instances of the program's own classes that never change behind their __init__ -/
namespace DL
open PySem PySem.Spec L2
open PyProof.Rows hiding St
section
variable {X : Cx} {F : FP} {W : WX} {a b e : Expr} {Ta Tb : TDE} {Tas : TDA} {pos : Pos} {fs : List Str} {c : Str}
/-! ### attributes -/
def gFld (f : Str) (x : D) (Q : D → Prop) : Prop := match x with
  | .ins _ fs ds => (match (fs.zip ds).lookup f with
    | some d => Q d
    | none => False)
  | _ => False
theorem reps_lookup {K : PySem.W.Frag} {Z : Zn} {N : Addr → Prop} {H : Hp} {f : Str} {d : D} : ∀ {fs : List Str} {ds : List D} {vs : List V}, Reps K Z N H ds vs → (fs.zip ds).lookup f = some d → f ∈ fs ∧ ∃ v, (fs.zip vs).lookup f = some v ∧ Rep K Z N H d v
  | [], _, _, _, h => by cases h
  | g :: fs, [], _, _, h => by cases h
  | g :: fs, x :: ds, vs, r, h => by
    obtain ⟨v, ws, rfl, h1, h2⟩ := r
    rw [List.zip_cons_cons, List.lookup_cons] at h
    rw [List.zip_cons_cons, List.lookup_cons]
    by_cases e : (f == g) = true
    · rw [e] at h ⊢
      cases h
      exact ⟨by rw [beq_iff_eq.mp e]; exact List.mem_cons_self, v, rfl, h1⟩
    · rw [Bool.not_eq_true] at e
      rw [e] at h ⊢
      obtain ⟨m, v', h3, h4⟩ := reps_lookup h2 h
      exact ⟨List.mem_cons_of_mem _ m, v', h3, h4⟩
theorem d_fld {f : Str} (hK : F.K = X.K) (ha : PE X e (tD F Ta)) (hb : attributeBase e f X.env (eval e X.env) = eval e X.env := by rfl) : PE X (.Attribute e f pos) (tD F (dUn (gFld f) Ta)) := PE.imp (pe_fld ha hb) (by
  rintro σ H Q ⟨N, env, Qd, fk, hT, k⟩
  refine ⟨N, env, _, fk, hT, fun v H1 d e1 r q => ?_⟩
  cases d with
  | ins c fs ds =>
    obtain ⟨a, dx, vs, rfl, _, hh, hl, i, rs⟩ := r
    have q : (match (fs.zip ds).lookup f with
      | some d => Qd d
      | none => False) := q
    cases hk : (fs.zip ds).lookup f with
    | none =>
      rw [hk] at q
      exact q.elim
    | some d =>
      rw [hk] at q
      obtain ⟨m, v, h3, h4⟩ := reps_lookup rs hk
      rw [hK] at hh i
      exact ⟨a, _, dx, _, v, rfl, hh, i.cls, i.no f m, h3, k v H1 d e1 h4 q⟩
  | _ => exact q.elim)
/-! ### isinstance(x, C) -/
def gIsC (c : Str) (x : D) (Q : D → Prop) : Prop := match x with
  | .ins c' _ _ => c' = c ∧ Q (.bl true)
  | x => typed x = true ∧ Q (.bl false)
theorem tyx_not {N : Addr → Prop} {H : Hp} : ∀ {d : D} {v : V}, (∀ c fs ds, d ≠ .ins c fs ds) → typed d = true → Rep F.K F.Z N H d v → ∃ T ∈ ["NoneType", "int", "bool", "tuple", "list", "str", "dict"], TyX F.K H v (.type T)
  | .non, v, _, _, h => ⟨"NoneType", by simp, by rw [show v = _ from h]; exact .base .non⟩
  | .bl b, v, _, _, h => ⟨"bool", by simp, by rw [show v = _ from h]; exact .base (.bl b)⟩
  | .int b, v, _, _, h => ⟨"int", by simp, by rw [show v = _ from h]; exact .base (.int b)⟩
  | .str b, v, _, _, h => ⟨"str", by simp, by rw [show v = _ from h]; exact .base (.str b)⟩
  | .tup ds, v, _, _, h => by
    obtain ⟨a, vs, rfl, r, q⟩ := h
    refine ⟨"tuple", by simp, ?_⟩
    rcases r with ⟨_, r⟩ | (r | ⟨_, r⟩) | ⟨o, _, _, h1, h2, _⟩
    · exact .base (.tup r)
    · cases r
    · cases r
    · exact .kTuple h1 h2
  | .lst ds, v, _, _, h => by
    obtain ⟨a, vs, rfl, _, r, q⟩ := h
    exact ⟨"list", by simp, .base (.lst r)⟩
  | .dct ks ds, v, _, _, h => by
    obtain ⟨a, vs, rfl, _, r, _, q⟩ := h
    exact ⟨"dict", by simp, .base (.dK r)⟩
  | .deck, _, _, p, _ => by cases p
  | .ty _, _, _, p, _ => by cases p
  | .kt ds, v, _, _, h => by
    obtain ⟨a, vs, o, rfl, _, r, _, q⟩ := h
    exact ⟨"tuple", by simp, .fTuple r⟩
  | .ins c fs ds, v, n, _, h => (n c fs ds rfl).elim
theorem d_isC {p p2 : Pos} {ty : Str} (i : InsK X.K c fs) (hK : F.K = X.K) (hg : Gl X "isinstance") (hm : X.mg "isinstance" = none) (hg2 : Gl X ty) (hm2 : X.mg ty = some (.ref (insA X.K c))) (ha : PE X a (tD F Ta)) (hd2 : (ty == ("__debug__" : Str)) = false := by decide)
    (he : starEach [a, .Name ty p2] X.env = (false, eval a X.env) :: starEach [.Name ty p2] X.env := by rfl) (he2 : starEach [.Name ty p2] X.env = (false, eval (.Name ty p2) X.env) :: starEach [] X.env := by rfl) (hpl : (backTo pos (starEach [.Name ty p2] X.env)).any (·.1) = false := by rfl) :
    PE X (.Call (.Name "isinstance" p) [a, .Name ty p2] [] pos) (tD F (dUn (gIsC c) Ta)) :=
  PE.imp (pe_callB call_isi hg hm (by decide +kernel) (pa_cons ha (pa_cons (pe_glob (v := .ref (insA X.K c)) hg2 hm2 rfl hd2) pa_nil he2) he) (by decide) (by decide) he hpl) (by
  rintro σ H Q ⟨N, env, Qd, f, hT, k⟩
  refine ⟨N, env, _, f, hT, fun v H1 d e1 r q => ?_⟩
  by_cases hn : ∃ c' fs' ds', d = .ins c' fs' ds'
  · obtain ⟨c', fs', ds', rfl⟩ := hn
    obtain ⟨ec, q⟩ := q
    subst ec
    obtain ⟨a, dx, vs, rfl, _, hh, hl, i', rs⟩ := r
    rw [hK] at hh i'
    exact ⟨.ref a, _, _, _, true, rfl, .own _, .base (.ins hh i'.cls i'.ca i'.cn i'.ct i'.cm), i.self, k _ _ _ e1 rep_bl q⟩
  · have hn : ∀ c fs ds, d ≠ .ins c fs ds := fun c fs ds e => hn ⟨c, fs, ds, e⟩
    have q : typed d = true ∧ Qd (.bl false) := by
      cases d <;> first | exact q | exact (hn _ _ _ rfl).elim
    obtain ⟨T, m, h3⟩ := tyx_not hn q.1 r
    rw [hK] at h3
    exact ⟨v, _, _, _, false, rfl, .own _, h3, i.tik T m, k _ _ _ e1 rep_bl q.2⟩)
end
end DL
set_option Elab.async false
set_option linter.all false
set_option maxRecDepth 100000
/-! an own __init__ whose last rows store what was worked out; the making of an instance -/
namespace DL
open PySem PySem.Spec L2
open PyProof.Rows hiding St
theorem notz {Z : Zn} {H : Hp} {p C dx : Addr} {fs : List (Str × V)} (dk : DeckOk Z H) (h : H p = some (.ins C dx fs)) : ¬ InZ Z p := by
  rintro ⟨a, l, e1, e2⟩
  obtain ⟨xs, m, k, h1, h2, _⟩ := dk.1 a l e1
  rcases e2 with rfl | rfl
  · rw [h] at h1; cases h1
  · rw [h] at h2; cases h2
/-! ### the last rows -/
def sIni (K : PySem.W.Frag) : List (Str × Nat) → TS
  | [] => fun De σ H => De.nx σ H
  | (f, j) :: r => fun De σ H => sFld K (tVar 0) (tVar j) f { De with nx := sIni K r De } σ H
theorem putF_new {f : Str} {v : V} : ∀ {fs : List (Str × V)}, f ∉ fs.map (·.1) → putF f v fs = fs ++ [(f, v)]
  | [], _ => rfl
  | (g, x) :: r, h => by
    have h1 : ¬ g = f := fun e => h (by rw [e]; exact List.mem_cons_self)
    have h2 : f ∉ r.map (·.1) := fun m => h (List.mem_cons_of_mem _ m)
    unfold putF
    rw [if_neg h1, putF_new h2]
    rfl
theorem sIni_run {K : PySem.W.Frag} {C dx p : Addr} {σ : L2.St} (cl : Cls K C) (h0 : σ[0]? = some (some (.ref p))) : ∀ {fs : List Str} {js : List Nat} {us : List V} {acc : List (Str × V)} {H : Hp} {De : Ends}, fs.length = us.length → fs.length = js.length →
    (∀ f ∈ fs, NoAttr K C f) → fs.Nodup → (∀ f ∈ fs, f ∉ acc.map (·.1)) → acc.length + fs.length < 1000 → (∀ (i : Nat) (j : Nat) (u : V), js[i]? = some j → us[i]? = some u → σ[j]? = some (some u)) → H p = some (.ins C dx acc) → De.nx σ (upd H p (.ins C dx (acc ++ fs.zip us))) →
    sIni K (fs.zip js) De σ H
  | [], js, us, acc, H, De, l1, l2, no, nd, na, sz, hj, hH, q => by
    have e : upd H p (.ins C dx (acc ++ ([] : List Str).zip us)) = H := by
      funext b
      unfold upd
      split
      · rename_i e
        rw [e, hH]
        simp
      · rfl
    rw [e] at q
    exact q
  | f :: fs, [], us, acc, H, De, l1, l2, no, nd, na, sz, hj, hH, q => by cases l2
  | f :: fs, j :: js, [], acc, H, De, l1, l2, no, nd, na, sz, hj, hH, q => by cases l1
  | f :: fs, j :: js, u :: us, acc, H, De, l1, l2, no, nd, na, sz, hj, hH, q => by
    have nf : f ∉ acc.map (·.1) := na f List.mem_cons_self
    refine ⟨u, hj 0 j u rfl rfl, .ref p, h0, p, C, dx, acc, rfl, hH, cl, no f List.mem_cons_self, by omega, ?_⟩
    rw [putF_new nf]
    refine sIni_run cl h0 (fs := fs) (js := js) (us := us) (acc := acc ++ [(f, u)]) (by simpa using l1) (by simpa using l2) (fun g m => no g (List.mem_cons_of_mem _ m)) (List.nodup_cons.mp nd).2 (fun g m => ?_) (by simp only [List.length_append, List.length_singleton]; simp only [List.length_cons] at sz; omega) (fun i j' u' a b => hj (i + 1) j' u' (by simpa using a) (by simpa using b)) upd_same ?_
    · rw [List.map_append]
      intro z
      rcases List.mem_append.mp z with z | z
      · exact na g (List.mem_cons_of_mem _ m) z
      · simp only [List.map_cons, List.map_nil, List.mem_cons, List.not_mem_nil, or_false] at z
        subst z
        exact (List.nodup_cons.mp nd).1 m
    · show De.nx σ (upd (upd H p _) p _)
      rw [upd_upd]
      have e : acc ++ [(f, u)] ++ fs.zip us = acc ++ (f :: fs).zip (u :: us) := by simp
      rw [e]
      exact q
/-! ### the reading -/
def pickD : List Nat → SE → Option (List D)
  | [], _ => some []
  | j :: js, env => match env[j]? with
    | some (.d x) => (pickD js env).map (x :: ·)
    | _ => none
def tfI (c : Str) (fs : List Str) (js : List Nat) (n : Nat) (T : TDS) : TF := fun ξ ds Q => ∀ v, T (fun x _ => ξ x) { nx := fun env => env[0]? = some (.raw v) ∧ ∃ es, pickD js env = some es ∧ Q (.ins c fs es), rt := fun _ => False } (.raw v :: startD (n - 1) ds)
/-- what an __init__ does: the instance at p gets its attributes -/
def spI (K : PySem.W.Frag) (c : Str) (fs : List Str) (n : Nat) (T : TF) : Sp := fun vs H Q E => ∃ (Z : Zn) (B : Addr → Prop) (p dx : Addr) (ws : List V) (ds : List D) (Qd : D → Prop) (Ed : DX → Prop), vs = .ref p :: ws ∧ B p ∧ H p = some (.ins (insA K c) dx []) ∧ BOk K Z B H ∧ Reps K Z B H ds ws ∧ ds.length = n ∧ T Ed ds Qd ∧
  (∀ us H' es, Ext Z H H' → Reps K Z B H' es us → fs.length = us.length → Qd (.ins c fs es) → Q .non (upd H' p (.ins (insA K c) dx (fs.zip us)))) ∧ ∀ x c' od H', Ext Z H H' → XRep K Z B H' x c' od → Ed x → E c' od H'
theorem pick_vals {F : FP} {N : Addr → Prop} {σ : L2.St} {H : Hp} {env : SE} (f : FOk F N σ H env) : ∀ {js : List Nat} {es : List D}, pickD js env = some es → ∃ us, Reps F.K F.Z N H es us ∧ js.length = us.length ∧ ∀ (i j : Nat) (u : V), js[i]? = some j → us[i]? = some u → σ[j]? = some (some u)
  | [], es, h => by
    cases h
    exact ⟨[], rfl, rfl, fun i j u a => by simp at a⟩
  | j :: js, es, h => by
    unfold pickD at h
    split at h
    · rename_i x e
      cases hp : pickD js env with
      | none => rw [hp] at h; cases h
      | some r =>
        rw [hp] at h
        cases h
        obtain ⟨us, r1, l, q⟩ := pick_vals f hp
        obtain ⟨v, h1, h2⟩ := f.slot j _ e
        refine ⟨v :: us, ⟨v, us, rfl, h2, r1⟩, by simp [l], fun i j' u a b => ?_⟩
        cases i with
        | zero =>
          simp only [List.getElem?_cons_zero, Option.some.injEq] at a b
          subst a b
          exact h1
        | succ i => exact q i j' u (by simpa using a) (by simpa using b)
    · cases h
theorem start_okI {K : PySem.W.Frag} {Z : Zn} {B : Addr → Prop} {H : Hp} {ds : List D} {vs : List V} {Ed : XW} {N : List Str} {n : Nat} {p : V} (hn : N.length = n + 1) (b : BOk K Z B H) (r : Reps K Z B H ds vs) : FOk ⟨K, Z, B, H, Ed, B, H⟩ B (start N (p :: vs)) H (.raw p :: startD (N.length - 1) ds) := by
  have e : start N (p :: vs) = some p :: start (List.replicate n ("" : Str)) vs := by
    unfold L2.start
    rw [hn, List.length_replicate]
    simp
  have e2 : N.length - 1 = (List.replicate n ("" : Str)).length := by rw [List.length_replicate, hn]; rfl
  rw [e, e2]
  have f := start_ok (Ed := Ed) (N := List.replicate n ("" : Str)) b r
  refine ⟨f.n, by simp [f.len], fun i s h => ?_, fun i j q xs ys hij h h' g g' => ?_⟩
  · cases i with
    | zero =>
      simp only [List.getElem?_cons_zero, Option.some.injEq] at h
      subst h
      rfl
    | succ i =>
      have h2 := f.slot i s (by simpa using h)
      exact h2
  · cases i with
    | zero => simp at h
    | succ i =>
      cases j with
      | zero => simp at h'
      | succ j => exact f.apart i j q xs ys (by omega) (by simpa using h) (by simpa using h') (by simpa using g) (by simpa using g')
theorem execs_app {env : Env} : ∀ (a b : List Stmt), execs (a ++ b) env = (execs a env >>= fun f => match f with | .next => execs b env | f => pure f)
  | [], b => by
    show execs b env = (pure Flow.next >>= _)
    rw [pure_bind]
  | st :: a, b => by
    rw [List.cons_append, execs_cons, execs_cons, bind_assoc]
    congr 1
    funext f
    cases f with
    | next => exact execs_app a b
    | _ => simp
theorem pss_split {X : Cx} {body : List Stmt} (m : Nat) {t u : TS} (h1 : PSs X (body.take m) t) (h2 : PSs X (body.drop m) u) : PSs X body (tSeq t u) := by
  have key : ∀ (a b : List Stmt), PSs X a t → PSs X b u → PSs X (a ++ b) (tSeq t u) := by
    intro a b h1 h2
    refine ⟨fun pins s σ H D I h => ?_⟩
    rw [execs_app]
    refine wpAny_bind (thn (h1.run pins s σ H { D with nx := u D } I h) fun f s1 q => ?_)
    cases f with
    | next =>
      obtain ⟨σ', H', I', q'⟩ := q
      exact h2.run pins s1 σ' H' D I' q'
    | _ => exact wpAny_pure q
  have z := key _ _ h1 h2
  rwa [List.take_append_drop] at z
section
variable {P : Program} {w : World} {K : PySem.W.Frag} {mg : Str → Option Value} {base : Heap} {k : Nat} {f : Addr} {fd : FuncData} {N ps : List Str} {fs : List Str} {c : Str}
theorem fng_init {x qual : Str} {params : Arguments} {body : List Stmt} {scope : Scope} {dvs : List V} {kws : List (Str × V)} {T : TDS} {js : List Nat} (m : Nat) (Fd : FunD K x qual params body scope dvs kws f fd) (S : FnScope N ps scope) (i : InsK K c fs) (nd : fs.Nodup) (sz : fs.length < 1000) (hl : fs.length = js.length)
    (hn : ps.length = (ps.length - 1) + 1) (hN : N.length = (N.length - 1) + 1)
    (hb : ∀ (cdv : Value) (A : Around) (outer : List Env) (s : Shared) (H : Hp) (E : XK) (F : FP), F.K = K → WOk F (fun c od _ H' => E c od H') → RoomG k (A.deeper (envOfC qual scope s.heap.objs.size f cdv)) →
      PSs (cxOf (CX P w) P w K mg base N qual scope f cdv A outer s H E) (body.take m) (sD F T))
    (ht : ∀ (cdv : Value) (A : Around) (outer : List Env) (s : Shared) (H : Hp) (E : XK), PSs (cxOf (CX P w) P w K mg base N qual scope f cdv A outer s H E) (body.drop m) (sIni K (fs.zip js))) :
    FnG P w K mg base (CX P w) (k + 1) f fd ps (spI K c fs (ps.length - 1) (tfI c fs js N.length T)) := by
  refine fng_of Fd S ?_ ?_
  · rintro vs H Q E ⟨Z, B, p, dx, ws, ds, Qd, Ed, rfl, _, _, b, r, hl, _⟩
    rw [List.length_cons, ← r.length, hl]
    exact hn.symm
  · rintro cdv A outer s H vs Q E room ⟨Z, B, p, dx, ws, ds, Qd, Ed, rfl, hp, hH, b, r, hl', hT, hq, he⟩
    refine ⟨_, pss_split m (hb cdv A outer s H E ⟨K, Z, B, H, fun x _ => Ed x, B, H⟩ rfl (fun N' σ H' env x c od f' xr hx => he x c od H' f'.n.ext (xr.less f'.n.sub) hx) room) (ht cdv A outer s H E), ?_⟩
    refine ⟨B, _, _, start_okI hN b r, hT (.ref p), ⟨fun N' σ' H' env' f' _ q => ?_, fun v H' d e r' q => q.elim, fun _ _ _ _ _ _ q => q.elim, fun _ _ _ _ _ _ q => q.elim⟩⟩
    obtain ⟨e0, es, hp1, q⟩ := q
    obtain ⟨us, r1, l, hv⟩ := pick_vals f' hp1
    have h0 : σ'[0]? = some (some (.ref p)) := f'.slot 0 _ e0
    have hH' : H' p = some (.ins (insA K c) dx []) := f'.n.ext.keep p _ (notz b.deck hH) kp_ins hH
    refine sIni_run i.cls h0 (by rw [hl, l]) hl i.no nd (fun _ _ => by simp) (by simpa using sz) hv hH' ?_
    exact hq us H' es f'.n.ext (r1.less f'.n.sub) (by rw [hl, l]) q
end
end DL
set_option Elab.async false
set_option linter.all false
set_option maxRecDepth 100000
/-! the making of an instance -/
namespace DL
open PySem PySem.Spec L2
open PyProof.Rows hiding St
theorem guards_make {A : Around} {args : Args} (h : A.guards = some []) : (A.under (.builtin "type.__call__" args)).guards = some [] := by
  show pushGuards (Code.builtin "type.__call__" args).guards A.guards = some []
  rw [h]
  rfl
theorem RoomG.make {k : Nat} {A : Around} (r : RoomG (k + 1) A) (C : Addr) (us : List Value) (kw : List (Str × Value)) : RoomG k (A.under (.builtin "type.__call__" ⟨.ref C :: us, kw⟩)) := ⟨r.r.make C us kw, guards_make r.g⟩
theorem ini_nil {X : Cx} : PSs X [] (sIni X.K []) := pss_nil
theorem ini_cons {X : Cx} {st : Stmt} {rest : List Stmt} {f : Str} {j : Nat} {r : List (Str × Nat)} (h1 : PS X st (sFld X.K (tVar 0) (tVar j) f)) (h2 : PSs X rest (sIni X.K r)) : PSs X (st :: rest) (sIni X.K ((f, j) :: r)) := pss_cons h1 h2
section
variable {X : Cx} {F : FP} {W : WX} {CX : CXT} {k n : Nat} {f C : Addr} {fd : FuncData} {ps : List Str} {sp : Sp} {dvs : List V} {ds : List Value} {x : Str} {p pos : Pos} {e : Expr} {es : List Expr} {Tas : TDA} {T : TF} {c : Str} {fs : List Str} {dflt : List D}
theorem run_makeG {E : XK} {pins : List (Addr × Obj)} {σ : L2.St} {H : Hp} {s : Shared} {Q : VK} {us : List Value} {vs : List V} (M : Mk X.K C f) (G : FnG X.prog X.w X.K X.mg X.base CX k f fd ps sp) (hr : RoomG (k + 1) X.A) (hb : Binds X.K fd ps ds) (hd : Vals dvs ds)
    (hx : PassesAt CX X σ E) (I : Inv X pins σ H s) (r : Vals vs us)
    (h : ∀ x dx, H x = none → H dx = none → dx ≠ x → sp (.ref x :: (vs ++ dvs)) (upd (upd H dx (.own x)) x (.ins C dx [])) (fun v H2 => v = .non ∧ Q (.ref x) H2) E) :
    wpAny (model X.prog X.w) X.A (call (.ref C) us) (EP X pins σ Q) X.xe s := by
  have hq := h (s.heap.objs.size + 1) s.heap.objs.size (I.hok.fresh (Nat.le_succ _)) (I.hok.fresh (Nat.le_refl _)) (Nat.ne_of_lt (Nat.lt_succ_self _))
  have I2 := Inv.made (C := C) I
  have r2 : Vals (V.ref (s.heap.objs.size + 1) :: (vs ++ dvs)) (Value.ref (s.heap.objs.size + 1) :: (us ++ ds)) := .cons rfl (r.append hd)
  have hl : (Value.ref (s.heap.objs.size + 1) :: us ++ ds).length = ps.length := by
    have e := r2.length
    rw [G.len _ _ _ _ hq] at e
    exact e.symm
  refine wpAny_call (make_map (f := f) I.kIn M.makes M.init (beq_iff_eq.mp M.fn) (codeAny_mono (G.run _ X.stack _ _ ⟨Value.ref (s.heap.objs.size + 1) :: us, []⟩ (Value.ref (s.heap.objs.size + 1) :: (us ++ ds)) _ _ E (hr.make C us [])
    (I2.env0.make C us []) (hb _ (Value.ref (s.heap.objs.size + 1) :: us) I2.kIn hl) r2 hq) fun r s' hq' => ?_))
  cases r with
  | error e => exact hx pins _ _ e s' I2 hq'
  | ok fl =>
    cases fl with
    | ret u =>
      obtain ⟨v, H', I3, rv, ev, q3⟩ := I2.after hq'
      subst ev
      exact ⟨rv, ⟨V.ref (s.heap.objs.size + 1), H', I3, rfl, q3⟩⟩
    | next => exact False.elim hq'
    | brk => exact False.elim hq'
    | cont => exact False.elim hq'
def tMakeS (C : Addr) (sp : Sp) (dvs : List V) (E : L2.St → XK) (t : TA) : TE := fun σ H Q => t σ H fun vs H1 => ∀ x dx, H1 x = none → H1 dx = none → dx ≠ x →
  sp (.ref x :: (vs ++ dvs)) (upd (upd H1 dx (.own x)) x (.ins C dx [])) (fun v H2 => v = .non ∧ Q (.ref x) H2) (E σ)
theorem pe_makeS {E : L2.St → XK} {t : TA} (M : Mk X.K C f) (G : FnG X.prog X.w X.K X.mg X.base CX k f fd ps sp) (hr : RoomG (k + 1) X.A) (hg : Gl X x) (hm : X.mg x = some (.ref C)) (hb : Binds X.K fd ps ds) (hd : Vals dvs ds) (hx : ∀ σ, PassesAt CX X σ (E σ))
    (ha : PA X (e :: es) t) (hdb : (x == ("__debug__" : Str)) = false := by decide) (he : starEach (e :: es) X.env = (false, eval e X.env) :: starEach es X.env := by rfl) (hpl : (backTo pos (starEach es X.env)).any (·.1) = false := by rfl) :
    PE X (.Call (.Name x p) (e :: es) [] pos) (tMakeS C sp dvs E t) := by
  refine ⟨fun pins s σ H Q I h => ?_⟩
  refine wpAny_Call_Name_kw (ld_glob I hg hm ?_ hdb)
  refine PySem.W.callWith_K (h₀ := X.base) I.ok.mod.kin M.kp (thn (ha.run pos pins s σ H _ I h) fun us s1 ⟨vs, H1, I1, r, q⟩ => ⟨I1.kIn, ?_⟩) he hpl
  exact run_makeG M G hr hb hd (hx σ) I1 r q
theorem deck_ins {Z : Zn} {H : Hp} {p C dx C' dx' : Addr} {as bs : List (Str × V)} (dk : DeckOk Z H) (h : H p = some (.ins C dx as)) : DeckOk Z (upd H p (.ins C' dx' bs)) := by
  refine ⟨fun a l e => ?_, fun q hq => ?_⟩
  · obtain ⟨xs, m, k, h1, h2, h3⟩ := dk.1 a l e
    refine ⟨xs, m, k, ?_, ?_, h3⟩
    · rw [upd_ne (fun z => by rw [z, h] at h1; cases h1)]; exact h1
    · rw [upd_ne (fun z => by rw [z, h] at h2; cases h2)]; exact h2
  · exact tab_upd h kp_ins (fun φ z => by cases z) (dk.2 q hq)
def dMk (n : Nat) (dflt : List D) (T : TF) (Ta : TDA) : TDE := fun ξ env Q => Ta ξ env fun ds => (ds ++ dflt).length = n ∧ T (fun x => ξ x env) (ds ++ dflt) Q
theorem tMk_imp (hK : F.K = X.K) (i : InsK X.K c fs) (wo : WOk F W) (hdv : ∀ (Z : Zn) (N : Addr → Prop) (H : Hp), Reps X.K Z N H dflt dvs) : ∀ σ H Q, tD F (dMk n dflt T Tas) σ H Q → tMakeS (insA X.K c) (spI X.K c fs n T) dvs (WE W) (tDA F Tas) σ H Q := by
  rintro σ H Q ⟨N, env, Qd, f, hT, k⟩
  refine ⟨N, env, _, f, hT, fun vs H1 ds e1 r1 q1 x dx hx hdx hne => ?_⟩
  rw [← hK] at i hdv ⊢
  have f1 := f.ext' e1
  have nx : ¬ N x := f1.n.fresh hx
  have kp1 : ∀ q u, H1 q = some u → upd (upd H1 dx (.own x)) x (.ins (insA F.K c) dx []) q = some u := fun q u z => by
    rw [upd_ne (fun w => by rw [w, hx] at z; cases z), upd_ne (fun w => by rw [w, hdx] at z; cases z)]
    exact z
  have dk1 : DeckOk F.Z (upd (upd H1 dx (.own x)) x (.ins (insA F.K c) dx [])) := deck_mono kp1 f1.n.deck
  have E12 : Ext F.Z H1 (upd (upd H1 dx (.own x)) x (.ins (insA F.K c) dx [])) := ⟨fun q o _ _ z => kp1 q o z, fun _ => dk1⟩
  refine ⟨F.Z, fun q => N q ∨ q = x, x, dx, vs ++ dvs, ds ++ dflt, Qd, _, rfl, .inr rfl, upd_same, ⟨dk1, fun q z => .inl (f1.n.z q z), fun q z => ?_, f1.n.tb⟩, ?_, q1.1, q1.2, ?_, ?_⟩
  · rcases z with z | z
    · obtain ⟨o, h1, h2⟩ := f1.n.all q z
      exact ⟨o, kp1 q o h1, h2⟩
    · rw [z]
      exact ⟨_, upd_same, kp_ins⟩
  · refine Reps.append (Reps.mono (fun q o n1 k1 z => ⟨kp1 q o z, ?_⟩) ds vs r1) (hdv _ _ _)
    rintro (w | w)
    · exact n1 w
    · rw [w, hx] at z; cases z
  · intro us H' es' e2 r2 l q2
    have hx' : H' x = some (.ins (insA F.K c) dx []) := e2.keep x _ (notz dk1 upd_same) kp_ins upd_same
    refine ⟨rfl, k (.ref x) _ (.ins c fs es') (e1.trans ⟨fun q o n1 k1 z => ?_, fun _ => ?_⟩) ?_ q2⟩
    · rw [upd_ne (fun w => by rw [w, hx] at z; cases z)]
      exact e2.keep q o n1 k1 (kp1 q o z)
    · exact deck_ins (e2.deck dk1) hx'
    · refine ⟨x, dx, us, rfl, nx, upd_same, l, i, Reps.mono (fun q o n1 k1 z => ⟨?_, fun w => n1 (.inl w)⟩) es' us r2⟩
      rw [upd_ne (fun w => n1 (.inr w))]
      exact z
  · intro x' c' od H' e2 xr hx'
    exact wo N σ H' env x' c' od (f1.ext' (E12.trans e2)) (xr.less fun q w => .inl w) hx'
end
end DL
set_option Elab.async false
set_option linter.all false
set_option maxRecDepth 100000
/-! own __eq__, constants that are tuples of ints, is True, texts -/
namespace DL
open PySem PySem.Spec L2
open PyProof.Rows hiding St
section
variable {X : Cx} {F : FP} {W : WX} {CX : CXT} {k n : Nat} {f C : Addr} {fd : FuncData} {ps : List Str} {sp : Sp} {dvs : List V} {x : Str} {p pos : Pos} {a b e o : Expr} {es : List Expr} {Ta Tb To Te : TDE} {Tas : TDA} {T : TF} {c : Str} {fs : List Str} {dflt : List D}
theorem d_make (M : Mk X.K (insA X.K c) f) (i : InsK X.K c fs) (G : FnG X.prog X.w X.K X.mg X.base (L2.CX X.prog X.w) k f fd ps (spI X.K c fs n T)) (tk : Takes X W) (wo : WOk F W) (hK : F.K = X.K) (hr : RoomG (k + 1) X.A) (hg : Gl X x) (hm : X.mg x = some (.ref (insA X.K c))) (hb : ∃ ds, Vals dvs ds ∧ Binds X.K fd ps ds) (hdv : ∀ (Z : Zn) (N : Addr → Prop) (H : Hp), Reps X.K Z N H dflt dvs)
    (ha : PA X (e :: es) (tDA F Tas)) (hdb : (x == ("__debug__" : Str)) = false := by decide) (he : starEach (e :: es) X.env = (false, eval e X.env) :: starEach es X.env := by rfl) (hpl : (backTo pos (starEach es X.env)).any (·.1) = false := by rfl) :
    PE X (.Call (.Name x p) (e :: es) [] pos) (tD F (dMk n dflt T Tas)) := by
  obtain ⟨ds, hd, hb⟩ := hb
  exact PE.imp (pe_makeS M G hr hg hm hb hd (fun σ => passAt tk σ) ha hdb he hpl) (tMk_imp hK i wo hdv)
theorem d_call0 (G : FnG X.prog X.w X.K X.mg X.base CX0 k f fd ps (spD X.K 0 T)) (hK : F.K = X.K) (hr : RoomG k X.A) (hg : Gl X x) (hm : X.mg x = some (.ref f)) (hk : PySem.W.keepIn X.K (.ref f) = true) (hb : Binds X.K fd ps []) (hdb : (x == ("__debug__" : Str)) = false := by decide) :
    PE X (.Call (.Name x p) [] [] pos) (tD F (dCall 0 T dNil)) := by
  refine ⟨fun pins s σ H Q I h => ?_⟩
  obtain ⟨N, env, Qd, f', hT, kk⟩ := h
  have q : spD X.K 0 T [] H Q E0 := ⟨F.Z, N, [], Qd, fun _ => False, by rw [← hK]; exact f'.n.bok, rfl, rfl, hT.2, fun v H2 d e2 r2 q2 => kk v H2 d e2 (by rw [hK]; exact r2) q2, fun _ _ _ _ _ _ z => z.elim⟩
  have b := hb s [] I.kIn (by simpa using G.len _ _ _ _ q)
  rw [List.append_nil] at b
  refine wpAny_Call_Name_kw (ld_glob I hg hm (PySem.W.callWith_K0 I.kIn hk (wpAny_call (codeAny_mono (run_gs (E := fun _ => E0) (us := []) (vs := []) G hr b (fun _ _ _ _ _ _ h => h.elim) I .nil q) fun r s' hq => ?_))) hdb)
  cases r with
  | error e => exact hq
  | ok fl => cases fl <;> exact hq
/-! ### x == y, two instances of a class with an own __eq__ -/
theorem inst_of {pins : List (Addr × Obj)} {σ : L2.St} {H : Hp} {s : Shared} {a C dx : Addr} {fs : List (Str × V)} (I : Inv X pins σ H s) (h : H a = some (.ins C dx fs)) : ∃ od : Obj, PySem.W.InstAt s.heap a (PySem.W.instObj C dx) C (some od) := by
  obtain ⟨mA, O, _, _, _, _⟩ := ins_get I.hok h
  obtain ⟨od, ho, hl⟩ := lookIn_ns O.ns
  exact ⟨od, O.obj, rfl, rfl, ho⟩
def rOwnG (C : Addr) (sp : Sp) (E : XK) : R2 := fun x y H Q => ∃ a dx fs b dy gs, x = .ref a ∧ y = .ref b ∧ H a = some (.ins C dx fs) ∧ H b = some (.ins C dy gs) ∧ sp [x, y] H Q E
theorem op_ownG {op : CmpOp} {g : Addr} (hop : ∀ a b, compareOp op a b = richCompare op a b) (hs : PySem.W.findIn X.K (.ref C) (cmpInfo op).2.1 = some (some (.ref g))) (hf : PySem.W.isFn X.K (.ref g) = true) (nf : PySem.W.notFirst X.K C (.ref C) = true)
    (G : FnG X.prog X.w X.K X.mg X.base CX0 n g fd ps sp) (hb : Binds X.K fd ps []) (hr : RoomG n X.A) : OpR X (compareOp op) (rOwnG C sp E0) := by
  intro pins s σ H x y v u Q I rx ry h
  obtain ⟨a, dx, vs, b, dy, ws, rfl, rfl, ha, hb', q⟩ := h
  cases (show v = Value.ref a from rx)
  cases (show u = Value.ref b from ry)
  obtain ⟨od, J⟩ := inst_of I ha
  obtain ⟨od', J'⟩ := inst_of I hb'
  obtain ⟨m, hF⟩ := I.fr
  rw [hop]
  have hl : ([.ref a, .ref b] : List Value).length = ps.length := by
    have := G.len _ _ _ _ q
    simpa using this
  have bb := hb s [.ref a, .ref b] I.kIn (by simpa using hl)
  rw [List.append_nil] at bb
  refine PySem.W.cmp_K (op := op) (tb := .ref C) hr.r.units0 hF I.ok.mod.kin J J'.type nf hs hf ?_
  refine wpAny_call (codeAny_mono (run_gs (E := fun _ => E0) (us := [.ref a, .ref b]) (vs := [.ref a, .ref b]) (Q := Q) G hr bb (fun _ _ _ _ _ _ h => h.elim) I (.cons rfl (.cons rfl .nil)) q) fun r s' hq => ?_)
  cases r with
  | error e => exact hq
  | ok fl =>
    cases fl with
    | ret u =>
      obtain ⟨z', H', I', rz, qz⟩ := hq
      exact SlX.cmpback rz ⟨z', H', I', rz, qz⟩
    | next => exact hq
    | brk => exact hq
    | cont => exact hq
def gEqI (c : Str) (T : TF) : G2 := fun x y Q => match x, y with
  | .ins c1 _ _, .ins c2 _ _ => (c1 = c ∧ c2 = c) ∧ T (fun _ => False) [x, y] Q
  | _, _ => False
theorem opd_eqI (hK : F.K = X.K) : OpD F (rOwnG (insA X.K c) (spD X.K 2 T) E0) (gEqI c T) := ⟨by
  intro N H x y dx dy Qd Q n rx ry h k
  unfold gEqI at h
  split at h
  · rename_i c1 f1 d1 c2 f2 d2
    obtain ⟨⟨e1, e2⟩, h⟩ := h
    subst e1 e2
    have rx' := rx
    have ry' := ry
    obtain ⟨a, dx, vs, ea, na, ha, _, _, _⟩ := rx'
    obtain ⟨b, dy, ws, eb, nb, hb, _, _, _⟩ := ry'
    rw [hK] at ha hb
    refine ⟨a, dx, _, b, dy, _, ea, eb, ha, hb, F.Z, N, [.ins _ f1 d1, .ins _ f2 d2], Qd, fun _ => False, by rw [← hK]; exact n.bok, ⟨x, [y], rfl, by rw [← hK]; exact rx, ⟨y, [], rfl, by rw [← hK]; exact ry, rfl⟩⟩, rfl, h, fun v H2 d e2 r2 q2 => k v H2 d e2 (by rw [hK]; exact r2) q2, fun _ _ _ _ _ _ z => z.elim⟩
  · exact h.elim⟩
theorem d_eqI {g : Addr} (i : InsK X.K c fs) (hs : PySem.W.findIn X.K (.ref (insA X.K c)) "__eq__" = some (some (.ref g))) (hf : PySem.W.isFn X.K (.ref g) = true) (G : FnG X.prog X.w X.K X.mg X.base CX0 k g fd ps (spD X.K 2 T)) (hK : F.K = X.K) (hr : RoomG k X.A) (hb : Binds X.K fd ps [])
    (ha : PE X a (tD F Ta)) (hb' : PE X b (tD F Tb)) : PE X (.Compare a [.Eq] [b] pos) (tD F (dBin (gEqI c T) Ta Tb)) := d_cmp (op_ownG (op := .Eq) (fun _ _ => rfl) hs hf i.nf G hb hr) (opd_eqI hK) ha hb' (nomark _)
theorem dt_eqI {g : Addr} (i : InsK X.K c fs) (hs : PySem.W.findIn X.K (.ref (insA X.K c)) "__eq__" = some (some (.ref g))) (hf : PySem.W.isFn X.K (.ref g) = true) (G : FnG X.prog X.w X.K X.mg X.base CX0 k g fd ps (spD X.K 2 T)) (hK : F.K = X.K) (hr : RoomG k X.A) (hb : Binds X.K fd ps [])
    (ha : PE X a (tD F Ta)) (hb' : PE X b (tD F Tb)) : PT X (.Compare a [.Eq] [b] pos) (tDT F (dTest (dBin (gEqI c T) Ta Tb))) := dt_cmp (op_ownG (op := .Eq) (fun _ _ => rfl) hs hf i.nf G hb hr) (opd_eqI hK) ha hb' (nomark _)
/-! ### a constant that is a tuple of ints -/
theorem reps_ints {K : PySem.W.Frag} {Z : Zn} {N : Addr → Prop} {H : Hp} : ∀ ns : List Int, Reps K Z N H (ns.map D.int) (ns.map V.int)
  | [] => rfl
  | n :: ns => ⟨_, _, rfl, rfl, reps_ints ns⟩
theorem d_gtup {x : Str} {A : Addr} {ns : List Int} (hK : F.K = X.K) (hg : Gl X x) (hm : X.mg x = some (.ref A)) (hT : SqT X.K NK A (ns.map V.int)) (hd : (x == ("__debug__" : Str)) = false := by decide) : PE X (.Name x pos) (tD F (dC (.tup (ns.map D.int)))) :=
  d_const (v := .ref A) (pe_glob hg hm rfl hd) fun N H => ⟨A, _, rfl, .inr (by rw [hK]; exact hT), reps_ints ns⟩
/-! ### what is never reached -/
def dNo : TDE := fun _ _ _ => False
theorem d_no : PE X e (tD F dNo) := ⟨fun _ _ _ _ _ _ ⟨_, _, _, _, h, _⟩ => h.elim⟩
def dtNo : TDT := fun _ _ _ => False
theorem dt_no : PT X e (tDT F dtNo) := ⟨fun _ _ _ _ _ _ ⟨_, _, _, _, h, _⟩ => h.elim⟩
/-! ### is True -/
theorem op_isBl : OpR X (compareOp .Is) (fun x y H Q => ∃ m n, x = .bl m ∧ y = .bl n ∧ Q (.bl (decide (m = n))) H) := by
  intro pins s σ H x y v u Q I rx ry h
  obtain ⟨m, n, rfl, rfl, q⟩ := h
  cases (show v = Value.bool m from rx)
  cases (show u = Value.bool n from ry)
  by_cases e : m = n
  · subst e
    exact wpAny_is_self rfl ⟨.bl true, H, I, rfl, by simpa using q⟩
  · exact wpAny_is_other rfl (fun z => e (Value.bool.inj z)) ⟨.bl false, H, I, rfl, by simpa [e] using q⟩
theorem op_isNotBl : OpR X (compareOp .IsNot) (fun x y H Q => ∃ m n, x = .bl m ∧ y = .bl n ∧ Q (.bl (!decide (m = n))) H) := by
  intro pins s σ H x y v u Q I rx ry h
  obtain ⟨m, n, rfl, rfl, q⟩ := h
  cases (show v = Value.bool m from rx)
  cases (show u = Value.bool n from ry)
  by_cases e : m = n
  · subst e
    exact wpAny_isNot_self rfl ⟨.bl false, H, I, rfl, by simpa using q⟩
  · exact wpAny_isNot_other rfl (fun z => e (Value.bool.inj z)) ⟨.bl true, H, I, rfl, by simpa [e] using q⟩
def gIsBl (neg : Bool) : G2 := fun x y Q => match x, y with
  | .bl m, .bl n => Q (.bl (if neg then !decide (m = n) else decide (m = n)))
  | _, _ => False
theorem opd_isBl : OpD F (fun x y H Q => ∃ m n, x = .bl m ∧ y = .bl n ∧ Q (.bl (decide (m = n))) H) (gIsBl false) := ⟨by
  intro N H x y dx dy Qd Q n rx ry h k
  unfold gIsBl at h
  split at h
  · exact ⟨_, _, rx, ry, k _ _ _ Ext.refl rep_bl h⟩
  · exact h.elim⟩
theorem opd_isNotBl : OpD F (fun x y H Q => ∃ m n, x = .bl m ∧ y = .bl n ∧ Q (.bl (!decide (m = n))) H) (gIsBl true) := ⟨by
  intro N H x y dx dy Qd Q n rx ry h k
  unfold gIsBl at h
  split at h
  · exact ⟨_, _, rx, ry, k _ _ _ Ext.refl rep_bl h⟩
  · exact h.elim⟩
theorem d_isbl (ha : PE X a (tD F Ta)) (hb : PE X b (tD F Tb)) (hm : behindInMarks .Is b = false := by rfl) : PE X (.Compare a [.Is] [b] pos) (tD F (dBin (gIsBl false) Ta Tb)) := d_cmp op_isBl opd_isBl ha hb hm
theorem dt_isbl (ha : PE X a (tD F Ta)) (hb : PE X b (tD F Tb)) (hm : behindInMarks .Is b = false := by rfl) : PT X (.Compare a [.Is] [b] pos) (tDT F (dTest (dBin (gIsBl false) Ta Tb))) := dt_cmp op_isBl opd_isBl ha hb hm
theorem d_isnotbl (ha : PE X a (tD F Ta)) (hb : PE X b (tD F Tb)) (hm : behindInMarks .IsNot b = false := by rfl) : PE X (.Compare a [.IsNot] [b] pos) (tD F (dBin (gIsBl true) Ta Tb)) := d_cmp op_isNotBl opd_isNotBl ha hb hm
theorem dt_isnotbl (ha : PE X a (tD F Ta)) (hb : PE X b (tD F Tb)) (hm : behindInMarks .IsNot b = false := by rfl) : PT X (.Compare a [.IsNot] [b] pos) (tDT F (dTest (dBin (gIsBl true) Ta Tb))) := dt_cmp op_isNotBl opd_isNotBl ha hb hm
/-! ### ys[::-1] -/
def gRevL : G1 := fun x Q => match x with
  | .lst ds => Q (.lst ds.reverse)
  | _ => False
theorem d_revL {k : Nat} {p1 p2 p3 : Pos} (hK : F.K = X.K) (he : PE X e (tD F Ta)) : PE X (.Subscript e (.Slice none none (some (.UnaryOp .USub (.Constant (.int 1) k p1) p2)) p3) pos) (tD F (dUn gRevL Ta)) := PE.imp (pe_revL he) (by
  rintro σ H Q ⟨N, env, Qd, f, hT, kk⟩
  refine ⟨N, env, _, f, hT, fun x H1 d e1 r1 q1 => ?_⟩
  cases d <;> first | exact q1.elim | skip
  rename_i ds
  obtain ⟨a, vs, rfl, _, ra, rs⟩ := r1
  have n1 := (f.ext' e1).n
  exact ⟨a, vs, rfl, .of ra, fun p hp => kk _ _ (.lst ds.reverse) (e1.trans (n1.lay hp)) (rep_newL n1 hp rs.rev) q1⟩)
/-! ### texts -/
def strsOf : List D → Option (List Str)
  | [] => some []
  | .str x :: ds => (strsOf ds).map (x :: ·)
  | _ => none
theorem strsOf_eq : ∀ {ds : List D} {xs : List Str}, strsOf ds = some xs → ds = xs.map D.str
  | [], xs, h => by cases h; rfl
  | d :: ds, xs, h => by
    cases d with
    | str x =>
      have h : (strsOf ds).map (x :: ·) = some xs := h
      cases hr : strsOf ds with
      | none => rw [hr] at h; cases h
      | some ys =>
        rw [hr] at h
        cases h
        rw [strsOf_eq hr]
        rfl
    | _ => cases h
theorem Reps.strs {K : PySem.W.Frag} {Z : Zn} {N : Addr → Prop} {H : Hp} : ∀ {ns : List Str} {vs : List V}, Reps K Z N H (ns.map D.str) vs → vs = ns.map V.str
  | [], _, h => h
  | n :: ns, _, ⟨v, r, e, h1, h2⟩ => by subst e; rw [show v = V.str n from h1, Reps.strs h2]; rfl
/-- a method of a text, with one argument -/
abbrev GM := Str → D → (D → Prop) → Prop
def dM1 (g : GM) (To Te : TDE) : TDE := fun ξ env Q => To ξ env fun x => match x with
  | .str a => Te ξ env fun y => g a y Q
  | _ => False
structure M1D (F : FP) (r : V → List V → Hp → VK → Prop) (g : GM) : Prop where
  ok : ∀ N H a y dy Qd (Q : VK), NOk F N H → Rep F.K F.Z N H dy y → g a dy Qd → (∀ v H' d, Ext F.Z H H' → Rep F.K F.Z N H' d v → Qd d → Q v H') → r (.str a) [y] H Q
theorem tM1_imp {r : V → List V → Hp → VK → Prop} {g : GM} (h : M1D F r g) : ∀ σ H Q, tD F (dM1 g To Te) σ H Q → tM1 r (tD F To) (tD F Te) σ H Q := by
  rintro σ H Q ⟨N, env, Qd, f, hT, k⟩
  refine ⟨N, env, _, f, hT, fun x H1 d e1 r1 q1 => ?_⟩
  cases d <;> first | exact q1.elim | skip
  rename_i a
  cases (show x = .str a from r1)
  refine ⟨⟨a, rfl⟩, N, env, _, f.ext' e1, q1, fun y H2 dy e2 r2 q2 => ?_⟩
  exact h.ok N H2 a y dy _ _ ((f.ext' e1).ext' e2).n r2 q2 fun v H3 d e3 r3 q3 => k v H3 d ((e1.trans e2).trans e3) r3 q3
/-- sep.join(ys) -/
def gJoin : GM := fun a y Q => match (seqOf y).bind strsOf with
  | some ys => (ys.map (·.length)).sum + ys.length * a.length ≤ 16777216 ∧ Q (.str (Txt.join a ys))
  | none => False
theorem m1_join : M1D F (fun x xs H Q => ∃ a p, ∃ ys : List Str, x = .str a ∧ xs = [.ref p] ∧ (SqL F.K H p (ys.map V.str) ∨ SqT F.K H p (ys.map V.str)) ∧ (ys.map (·.length)).sum + ys.length * a.length ≤ 16777216 ∧ Q (.str (Txt.join a ys)) H) gJoin := ⟨by
  intro N H a y dy Qd Q n ry h k
  unfold gJoin at h
  cases dy with
  | tup ds =>
    cases hs : strsOf ds with
    | none =>
      rw [show (seqOf (.tup ds)).bind strsOf = strsOf ds from rfl, hs] at h
      exact h.elim
    | some ys =>
      rw [show (seqOf (.tup ds)).bind strsOf = strsOf ds from rfl, hs] at h
      obtain ⟨p, vs, rfl, r, q⟩ := ry
      rw [strsOf_eq hs] at q
      rw [q.strs] at r
      exact ⟨a, p, ys, rfl, rfl, .inr (sqt_of r), h.1, k _ _ (.str _) Ext.refl rfl h.2⟩
  | lst ds =>
    cases hs : strsOf ds with
    | none =>
      rw [show (seqOf (.lst ds)).bind strsOf = strsOf ds from rfl, hs] at h
      exact h.elim
    | some ys =>
      rw [show (seqOf (.lst ds)).bind strsOf = strsOf ds from rfl, hs] at h
      obtain ⟨p, vs, rfl, _, r, q⟩ := ry
      rw [strsOf_eq hs] at q
      rw [q.strs] at r
      exact ⟨a, p, ys, rfl, rfl, .inl (.of r), h.1, k _ _ (.str _) Ext.refl rfl h.2⟩
  | _ => exact h.elim⟩
theorem d_join {apos pos : Pos} (hK : F.K = X.K) (ho : PE X o (tD F To)) (he : PE X e (tD F Te)) (hs : starEach [e] X.env = [(false, eval e X.env)] := by rfl) (hbase : attributeBase o "join" X.env (eval o X.env) = eval o X.env := by rfl) (hline : (apos.endLine == pos.line) = true := by rfl) :
    PE X (.Call (.Attribute o "join" apos) [e] [] pos) (tD F (dM1 gJoin To Te)) := by
  have m := m1_join (F := F)
  rw [hK] at m
  exact PE.imp (pe_join ho he hs hbase hline) (tM1_imp m)
/-- text.zfill(n) -/
def gZfill : GM := fun a y Q => match y with
  | .int i => PadOk i = true ∧ Q (.str (Txt.zfill a i))
  | _ => False
theorem m1_zfill : M1D F (fun x xs H Q => ∃ (a : Str) (i : Int), x = .str a ∧ xs = [.int i] ∧ PadOk i = true ∧ Q (.str (Txt.zfill a i)) H) gZfill := ⟨by
  intro N H a y dy Qd Q n ry h k
  unfold gZfill at h
  split at h
  · rename_i i
    cases (show y = .int i from ry)
    exact ⟨a, i, rfl, rfl, h.1, k _ _ (.str _) Ext.refl rfl h.2⟩
  · exact h.elim⟩
theorem d_zfill {apos pos : Pos} (ho : PE X o (tD F To)) (he : PE X e (tD F Te)) (hs : starEach [e] X.env = [(false, eval e X.env)] := by rfl) (hbase : attributeBase o "zfill" X.env (eval o X.env) = eval o X.env := by rfl) (hline : (apos.endLine == pos.line) = true := by rfl) :
    PE X (.Call (.Attribute o "zfill" apos) [e] [] pos) (tD F (dM1 gZfill To Te)) := PE.imp (pe_m1 PySem.F.slot_str_zfill PySem.F.type_str_zfill mt_zfill ho he hs hbase hline) (tM1_imp m1_zfill)
/-- a + b, two texts -/
def gAddS : G2 := fun x y Q => match x, y with
  | .str a, .str b => a.length + b.length ≤ sizeLine ∧ Q (.str (a ++ b))
  | _, _ => False
theorem opd_addS : OpD F (fun x y H Q => ∃ i j, x = .str i ∧ y = .str j ∧ i.length + j.length ≤ sizeLine ∧ Q (.str (i ++ j)) H) gAddS := ⟨by
  intro N H x y dx dy Qd Q n rx ry h k
  unfold gAddS at h
  split at h
  · exact ⟨_, _, rx, ry, h.1, k _ _ (.str _) Ext.refl rfl h.2⟩
  · exact h.elim⟩
theorem d_addS (ha : PE X a (tD F Ta)) (hb : PE X b (tD F Tb)) : PE X (.BinOp a .Add b pos) (tD F (dBin gAddS Ta Tb)) := d_op op_add_str opd_addS ha hb
/-- a ** b, a great base -/
def CPowB (i j : Int) : Prop := 0 ≤ j ∧ (Builtin.Int.intBits i : Int) * j ≤ 2 ^ 27
theorem op_powB : OpR X (binaryOp .Pow) (rI CPowB fun i j => .int (i ^ j.toNat)) := opI fun _ _ _ _ _ _ _ hc q => pow_int hc.1 hc.2 q
abbrev gPowB : G2 := gI CPowB fun i j => .int (i ^ j.toNat)
theorem d_powB (ha : PE X a (tD F Ta)) (hb : PE X b (tD F Tb)) : PE X (.BinOp a .Pow b pos) (tD F (dBin gPowB Ta Tb)) := d_op op_powB (opd_I fun _ _ _ _ => rfl) ha hb
/-- divmod(a, b) -/
def gDivmod : GA := fun xs Q => match xs with
  | [.int i, .int j] => CDivP i j ∧ Q (.tup [.int (i / j), .int (i % j)])
  | _ => False
theorem cd_divmod : CallD F (fun xs H Q => ∃ i j, xs = [.int i, .int j] ∧ CDivP i j ∧ ∀ p, H p = none → Q (.ref p) (upd H p (.tup [.int (i / j), .int (i % j)]))) gDivmod := ⟨by
  intro N H vs ds Qd Q n r h k
  unfold gDivmod at h
  split at h
  · rename_i i j
    obtain ⟨v, r, rfl, h1, v2, r2, rfl, h2, h3⟩ := r
    cases (show v = .int i from h1)
    cases (show v2 = .int j from h2)
    cases (show r2 = [] from h3)
    exact ⟨i, j, rfl, h.1, fun p hp => k _ _ (.tup [.int (i / j), .int (i % j)]) (n.lay hp) (rep_newT n hp (reps_ints [i / j, i % j])) h.2⟩
  · exact h.elim⟩
end
def methOf (n : Str) (s : Stmt) : Stmt := match s with
  | .ClassDef _ _ _ body _ _ _ _ _ _ _ => (body.find? fun b => match b with
    | .FunctionDef m _ _ _ _ _ _ _ _ _ => m == n
    | _ => false).getD s
  | s => s
/-! ### what the head checks of a class -/
def mkB (K : PySem.W.Frag) (c : Str) : Bool := PySem.W.makesIn K (insA K c) && (decide (PySem.W.findIn K (.ref (insA K c)) "__init__" = some (some (.ref (He.fAd K (c, some "__init__"))))) && (PySem.W.isFn K (.ref (He.fAd K (c, some "__init__"))) && PySem.W.keepIn K (.ref (insA K c))))
theorem mkB_ok {K : PySem.W.Frag} {c : Str} (h : mkB K c = true) : Mk K (insA K c) (He.fAd K (c, some "__init__")) := by
  unfold mkB at h
  simp only [Bool.and_eq_true, decide_eq_true_eq] at h
  exact ⟨h.1, h.2.1, h.2.2.1, h.2.2.2⟩
def eqB (K : PySem.W.Frag) (c : Str) : Bool := decide (PySem.W.findIn K (.ref (insA K c)) "__eq__" = some (some (.ref (He.fAd K (c, some "__eq__"))))) && PySem.W.isFn K (.ref (He.fAd K (c, some "__eq__")))
theorem eqB_ok {K : PySem.W.Frag} {c : Str} (h : eqB K c = true) : PySem.W.findIn K (.ref (insA K c)) "__eq__" = some (some (.ref (He.fAd K (c, some "__eq__")))) ∧ PySem.W.isFn K (.ref (He.fAd K (c, some "__eq__"))) = true := by
  unfold eqB at h
  simp only [Bool.and_eq_true, decide_eq_true_eq] at h
  exact h
theorem mg_ins {K : PySem.W.Frag} {h : Heap} {mg : Str → Option Value} (X : K.In h) (G : h.Ns mainGlobals mg) {c : Str} {fs : List Str} (i : InsK K c fs) : mg c = some (.ref (insA K c)) := PySem.W.mg_of X G i.at_
/-- a global tuple of ints -/
def tupIB (K : PySem.W.Frag) (x : Str) (ns : List Int) : Bool := He.tupB K x (ns.map He.Dv.int) && decide (PySem.W.nsIn K mainGlobals x = some (some (.ref (He.ga K x))))
theorem tupIB_ok {K : PySem.W.Frag} {h : Heap} {mg : Str → Option Value} (X : K.In h) (G : h.Ns mainGlobals mg) {x : Str} {ns : List Int} (c : tupIB K x ns = true) : mg x = some (.ref (He.ga K x)) ∧ SqT K NK (He.ga K x) (ns.map V.int) := by
  unfold tupIB at c
  simp only [Bool.and_eq_true, decide_eq_true_eq] at c
  refine ⟨PySem.W.mg_of X G c.2, ?_⟩
  have z := He.tupB_ok c.1 NK
  rw [List.map_map] at z
  exact z
/-- a default that is a tuple of ints -/
def dflIB (K : PySem.W.Frag) (a : Addr) (ns : List Int) : Bool := match K.lookup a with
  | some ⟨.type c, _, .seq its _, _⟩ => decide (c = "tuple") && (decide (its.size ≤ sizeLine) && He.relAll (ns.map V.int) its.toList)
  | _ => false
theorem dflIB_ok {K : PySem.W.Frag} {a : Addr} {ns : List Int} (h : dflIB K a ns = true) : SqT K NK a (ns.map V.int) := by
  unfold dflIB at h
  split at h
  · rename_i c od its n osl q
    simp only [Bool.and_eq_true, decide_eq_true_eq] at h
    obtain ⟨h1, h3, h4⟩ := h
    subst h1
    exact .inr ⟨_, its, n, q, rfl, rfl, h3, He.relAll_ok h4⟩
  · cases h
end DL
set_option Elab.async false
set_option linter.all false
set_option maxRecDepth 100000
set_option maxHeartbeats 4000000
namespace K10
open PySem PySem.Spec L2 DL
open PyProof.Rows hiding St
def top (i : Nat) : Stmt := PySem.Challenge.pw_nevertwice_k10_any_value_as_a_golden_num.main.body.getD i (.Pass ⟨0, 0, 0, 0⟩)
abbrev s_is_plain_integer : Stmt := top 2
abbrev s_is_tuple_of : Stmt := top 3
abbrev s_are_plain_integers : Stmt := top 4
abbrev s__block : Stmt := top 16
abbrev s_integer_text : Stmt := top 17
abbrev s_is_golden : Stmt := top 23
abbrev s_need_golden : Stmt := top 24
abbrev s__lowest : Stmt := top 25
abbrev s_reduced : Stmt := top 26
abbrev s_plus : Stmt := top 27
abbrev s_minus : Stmt := top 28
abbrev s_times : Stmt := top 29
abbrev s_quotient : Stmt := top 30
abbrev s_sign_of_parts : Stmt := top 31
abbrev s__order : Stmt := top 32
abbrev s_sign : Stmt := top 33
abbrev s_is_below : Stmt := top 34
abbrev s_are_equal : Stmt := top 35
abbrev s_integer_below : Stmt := top 36
abbrev s_integer_above : Stmt := top 37
abbrev s_is_whole : Stmt := top 38
abbrev s_conjugate : Stmt := top 39
abbrev s_power : Stmt := top 40
abbrev s_number_text : Stmt := top 41
abbrev s_five_by_rule : Stmt := top 45
abbrev s_led_round : Stmt := top 46
abbrev s_with_part : Stmt := top 47
abbrev s_stepped : Stmt := top 48
abbrev s_keys_by : Stmt := top 57
abbrev s__whole_directions : Stmt := top 58
abbrev s__sides_of : Stmt := top 59
abbrev s_Floor_init : Stmt := methOf "__init__" (top 55)
abbrev s_Floor_eq : Stmt := methOf "__eq__" (top 55)
abbrev s__law_deck : Stmt := top 61
abbrev s__law_draw : Stmt := top 62
abbrev s__law_pick : Stmt := top 63
abbrev s__law_integer : Stmt := top 64
abbrev s__law_same : Stmt := top 65
abbrev s__law_golden : Stmt := top 66
abbrev s__law_odd : Stmt := top 67
abbrev s__law_bent : Stmt := top 68
abbrev s__law_is_golden : Stmt := top 69
abbrev s__law_value : Stmt := top 70
abbrev s__law_refused : Stmt := top 71
abbrev s__law_two_right : Stmt := top 72
abbrev s__law_one_right : Stmt := top 73
abbrev s__law_is_floor_refused : Stmt := top 74
abbrev s__law_is_great_right : Stmt := top 75
abbrev s_law : Stmt := top 76
abbrev FnP (K : PySem.W.Frag) (x : Str) (st : Stmt) (f : Addr) (fd : FuncData) : Prop := FunD K x x (defArgs st) (defBody st) (defScope st) [] [] f fd
abbrev FnPD (K : PySem.W.Frag) (x : Str) (st : Stmt) (dvs : List V) (f : Addr) (fd : FuncData) : Prop := FunD K x x (defArgs st) (defBody st) (defScope st) dvs [] f fd
def TN : List Str := ["_law_two_right", "_law_one_right", "_law_is_floor_refused", "_law_is_great_right"]
abbrev i_BadNumber : Stmt := initOf (top 7)
abbrev i_BadPower : Stmt := initOf (top 9)
abbrev i_BadSide : Stmt := initOf (top 11)
end K10
set_option Elab.async false
set_option linter.all false
set_option maxRecDepth 100000
set_option maxHeartbeats 4000000
namespace K10
open PySem PySem.Spec L2 DL
open PyProof.Rows hiding St
def dd_is_plain_integer : He.DefD := ⟨("is_plain_integer", none), "is_plain_integer", "is_plain_integer", defArgs s_is_plain_integer, defBody s_is_plain_integer, defScope s_is_plain_integer, [], []⟩
def dd_is_tuple_of : He.DefD := ⟨("is_tuple_of", none), "is_tuple_of", "is_tuple_of", defArgs s_is_tuple_of, defBody s_is_tuple_of, defScope s_is_tuple_of, [], []⟩
def dd_are_plain_integers : He.DefD := ⟨("are_plain_integers", none), "are_plain_integers", "are_plain_integers", defArgs s_are_plain_integers, defBody s_are_plain_integers, defScope s_are_plain_integers, [], []⟩
def dd__block : He.DefD := ⟨("_block", none), "_block", "_block", defArgs s__block, defBody s__block, defScope s__block, [], []⟩
def dd_integer_text : He.DefD := ⟨("integer_text", none), "integer_text", "integer_text", defArgs s_integer_text, defBody s_integer_text, defScope s_integer_text, [], []⟩
def dd_is_golden : He.DefD := ⟨("is_golden", none), "is_golden", "is_golden", defArgs s_is_golden, defBody s_is_golden, defScope s_is_golden, [], []⟩
def dd_need_golden : He.DefD := ⟨("need_golden", none), "need_golden", "need_golden", defArgs s_need_golden, defBody s_need_golden, defScope s_need_golden, [], []⟩
def dd__lowest : He.DefD := ⟨("_lowest", none), "_lowest", "_lowest", defArgs s__lowest, defBody s__lowest, defScope s__lowest, [], []⟩
def dd_reduced : He.DefD := ⟨("reduced", none), "reduced", "reduced", defArgs s_reduced, defBody s_reduced, defScope s_reduced, [], []⟩
def dd_plus : He.DefD := ⟨("plus", none), "plus", "plus", defArgs s_plus, defBody s_plus, defScope s_plus, [], []⟩
def dd_minus : He.DefD := ⟨("minus", none), "minus", "minus", defArgs s_minus, defBody s_minus, defScope s_minus, [], []⟩
def dd_times : He.DefD := ⟨("times", none), "times", "times", defArgs s_times, defBody s_times, defScope s_times, [], []⟩
def dd_quotient : He.DefD := ⟨("quotient", none), "quotient", "quotient", defArgs s_quotient, defBody s_quotient, defScope s_quotient, [], []⟩
def dd_sign_of_parts : He.DefD := ⟨("sign_of_parts", none), "sign_of_parts", "sign_of_parts", defArgs s_sign_of_parts, defBody s_sign_of_parts, defScope s_sign_of_parts, [], []⟩
def dd__order : He.DefD := ⟨("_order", none), "_order", "_order", defArgs s__order, defBody s__order, defScope s__order, [], []⟩
def dd_sign : He.DefD := ⟨("sign", none), "sign", "sign", defArgs s_sign, defBody s_sign, defScope s_sign, [], []⟩
def dd_is_below : He.DefD := ⟨("is_below", none), "is_below", "is_below", defArgs s_is_below, defBody s_is_below, defScope s_is_below, [], []⟩
def dd_are_equal : He.DefD := ⟨("are_equal", none), "are_equal", "are_equal", defArgs s_are_equal, defBody s_are_equal, defScope s_are_equal, [], []⟩
def dd_integer_below : He.DefD := ⟨("integer_below", none), "integer_below", "integer_below", defArgs s_integer_below, defBody s_integer_below, defScope s_integer_below, [], []⟩
def dd_integer_above : He.DefD := ⟨("integer_above", none), "integer_above", "integer_above", defArgs s_integer_above, defBody s_integer_above, defScope s_integer_above, [], []⟩
def dd_is_whole : He.DefD := ⟨("is_whole", none), "is_whole", "is_whole", defArgs s_is_whole, defBody s_is_whole, defScope s_is_whole, [], []⟩
def dd_conjugate : He.DefD := ⟨("conjugate", none), "conjugate", "conjugate", defArgs s_conjugate, defBody s_conjugate, defScope s_conjugate, [], []⟩
def dd_power : He.DefD := ⟨("power", none), "power", "power", defArgs s_power, defBody s_power, defScope s_power, [], []⟩
def dd_number_text : He.DefD := ⟨("number_text", none), "number_text", "number_text", defArgs s_number_text, defBody s_number_text, defScope s_number_text, [], []⟩
def dd_five_by_rule : He.DefD := ⟨("five_by_rule", none), "five_by_rule", "five_by_rule", defArgs s_five_by_rule, defBody s_five_by_rule, defScope s_five_by_rule, [], []⟩
def dd_led_round : He.DefD := ⟨("led_round", none), "led_round", "led_round", defArgs s_led_round, defBody s_led_round, defScope s_led_round, [], []⟩
def dd_with_part : He.DefD := ⟨("with_part", none), "with_part", "with_part", defArgs s_with_part, defBody s_with_part, defScope s_with_part, [], []⟩
def dd_stepped : He.DefD := ⟨("stepped", none), "stepped", "stepped", defArgs s_stepped, defBody s_stepped, defScope s_stepped, [], []⟩
def dd_keys_by : He.DefD := ⟨("keys_by", none), "keys_by", "keys_by", defArgs s_keys_by, defBody s_keys_by, defScope s_keys_by, [], []⟩
def dd__whole_directions : He.DefD := ⟨("_whole_directions", none), "_whole_directions", "_whole_directions", defArgs s__whole_directions, defBody s__whole_directions, defScope s__whole_directions, [], []⟩
def dd__sides_of : He.DefD := ⟨("_sides_of", none), "_sides_of", "_sides_of", defArgs s__sides_of, defBody s__sides_of, defScope s__sides_of, [], []⟩
def dd_Floor_init : He.DefD := ⟨("Floor", some "__init__"), "__init__", "Floor.__init__", defArgs s_Floor_init, defBody s_Floor_init, defScope s_Floor_init, [.adr (He.dflAt ("Floor", some "__init__") 0)], []⟩
def dd_Floor_eq : He.DefD := ⟨("Floor", some "__eq__"), "__eq__", "Floor.__eq__", defArgs s_Floor_eq, defBody s_Floor_eq, defScope s_Floor_eq, [], []⟩
def dd__law_deck : He.DefD := ⟨("_law_deck", none), "_law_deck", "_law_deck", defArgs s__law_deck, defBody s__law_deck, defScope s__law_deck, [], []⟩
def dd__law_draw : He.DefD := ⟨("_law_draw", none), "_law_draw", "_law_draw", defArgs s__law_draw, defBody s__law_draw, defScope s__law_draw, [], []⟩
def dd__law_pick : He.DefD := ⟨("_law_pick", none), "_law_pick", "_law_pick", defArgs s__law_pick, defBody s__law_pick, defScope s__law_pick, [], []⟩
def dd__law_integer : He.DefD := ⟨("_law_integer", none), "_law_integer", "_law_integer", defArgs s__law_integer, defBody s__law_integer, defScope s__law_integer, [], []⟩
def dd__law_same : He.DefD := ⟨("_law_same", none), "_law_same", "_law_same", defArgs s__law_same, defBody s__law_same, defScope s__law_same, [], []⟩
def dd__law_golden : He.DefD := ⟨("_law_golden", none), "_law_golden", "_law_golden", defArgs s__law_golden, defBody s__law_golden, defScope s__law_golden, [], []⟩
def dd__law_odd : He.DefD := ⟨("_law_odd", none), "_law_odd", "_law_odd", defArgs s__law_odd, defBody s__law_odd, defScope s__law_odd, [], []⟩
def dd__law_bent : He.DefD := ⟨("_law_bent", none), "_law_bent", "_law_bent", defArgs s__law_bent, defBody s__law_bent, defScope s__law_bent, [], []⟩
def dd__law_is_golden : He.DefD := ⟨("_law_is_golden", none), "_law_is_golden", "_law_is_golden", defArgs s__law_is_golden, defBody s__law_is_golden, defScope s__law_is_golden, [], []⟩
def dd__law_value : He.DefD := ⟨("_law_value", none), "_law_value", "_law_value", defArgs s__law_value, defBody s__law_value, defScope s__law_value, [], []⟩
def dd__law_refused : He.DefD := ⟨("_law_refused", none), "_law_refused", "_law_refused", defArgs s__law_refused, defBody s__law_refused, defScope s__law_refused, [], []⟩
def dd__law_two_right : He.DefD := ⟨("_law_two_right", none), "_law_two_right", "_law_two_right", defArgs s__law_two_right, defBody s__law_two_right, defScope s__law_two_right, [], []⟩
def dd__law_one_right : He.DefD := ⟨("_law_one_right", none), "_law_one_right", "_law_one_right", defArgs s__law_one_right, defBody s__law_one_right, defScope s__law_one_right, [], []⟩
def dd__law_is_floor_refused : He.DefD := ⟨("_law_is_floor_refused", none), "_law_is_floor_refused", "_law_is_floor_refused", defArgs s__law_is_floor_refused, defBody s__law_is_floor_refused, defScope s__law_is_floor_refused, [], []⟩
def dd__law_is_great_right : He.DefD := ⟨("_law_is_great_right", none), "_law_is_great_right", "_law_is_great_right", defArgs s__law_is_great_right, defBody s__law_is_great_right, defScope s__law_is_great_right, [], []⟩
def dd_law : He.DefD := ⟨("law", none), "law", "law", defArgs s_law, defBody s_law, defScope s_law, [], []⟩
def di_BadNumber : He.DefD := ⟨("BadNumber", some "__init__"), "__init__", "BadNumber.__init__", defArgs i_BadNumber, defBody i_BadNumber, defScope i_BadNumber, [], []⟩
def di_BadPower : He.DefD := ⟨("BadPower", some "__init__"), "__init__", "BadPower.__init__", defArgs i_BadPower, defBody i_BadPower, defScope i_BadPower, [], []⟩
def di_BadSide : He.DefD := ⟨("BadSide", some "__init__"), "__init__", "BadSide.__init__", defArgs i_BadSide, defBody i_BadSide, defScope i_BadSide, [], []⟩
def fn : List He.DefD := [dd_is_plain_integer, dd_is_tuple_of, dd_are_plain_integers, dd__block, dd_integer_text, dd_is_golden, dd_need_golden, dd__lowest, dd_reduced, dd_plus, dd_minus, dd_times, dd_quotient, dd_sign_of_parts, dd__order, dd_sign, dd_is_below, dd_are_equal, dd_integer_below, dd_integer_above, dd_is_whole, dd_conjugate, dd_power, dd_number_text, dd_five_by_rule, dd_led_round, dd_with_part, dd_stepped, dd_keys_by, dd__whole_directions, dd__sides_of, dd_Floor_init, dd_Floor_eq, dd__law_deck, dd__law_draw, dd__law_pick, dd__law_integer, dd__law_same, dd__law_golden, dd__law_odd, dd__law_bent, dd__law_is_golden, dd__law_value, dd__law_refused, dd__law_two_right, dd__law_one_right, dd__law_is_floor_refused, dd__law_is_great_right, dd_law, di_BadNumber, di_BadPower, di_BadSide]
def faL : List He.Fa := [.glo "is_plain_integer", .glo "is_tuple_of", .glo "are_plain_integers", .glo "_block", .glo "integer_text", .glo "is_golden", .glo "need_golden", .glo "_lowest", .glo "reduced", .glo "plus", .glo "minus", .glo "times", .glo "quotient", .glo "sign_of_parts", .glo "_order", .glo "sign", .glo "is_below", .glo "are_equal", .glo "integer_below", .glo "integer_above", .glo "is_whole", .glo "conjugate", .glo "power", .glo "number_text", .glo "five_by_rule", .glo "led_round", .glo "with_part", .glo "stepped", .glo "keys_by", .glo "_whole_directions", .glo "_sides_of", .glo "_law_deck", .glo "_law_draw", .glo "_law_pick", .glo "_law_integer", .glo "_law_same", .glo "_law_golden", .glo "_law_odd", .glo "_law_bent", .glo "_law_is_golden", .glo "_law_value", .glo "_law_refused", .glo "_law_two_right", .glo "_law_one_right", .glo "_law_is_floor_refused", .glo "_law_is_great_right", .glo "law", .free "abs", .free "all", .free "bool", .free "divmod", .free "int", .free "isinstance", .free "len", .free "list", .free "max", .free "range", .free "repr", .free "str", .free "tuple"]
def ex (K : PySem.W.Frag) : Bool := bltB K "gcd" "math.gcd" && bltB K "isqrt" "math.isqrt" && gintB K "BLOCK_DIGITS" 512 && tupIB K "FIRST_SIDE" [1, -1, 1, 1, -1] && gintB K "GREATEST_POWER" 2000 && tupIB K "KEY_RULE" [0, -1, 1] && tupIB K "REGULAR_SIDE" [0, 0, 0, 0, 0] && mxB K && smB K && exfB K "BadNumber" "thing" && exisB K "BadNumber" && exfB K "BadPower" "thing" && exisB K "BadPower" && exfB K "BadSide" "thing" && exisB K "BadSide" && refB K "BadCount" && refB K "BadNumber" && refB K "BadPower" && refB K "BadText" && refB K "DividedByZero" && refB K "Floor" && refB K "FloorError" && exmB K "BadNumber" "BadNumber" true && exmB K "BadPower" "BadNumber" false && exmB K "BadSide" "BadNumber" false && exmB K "DividedByZero" "BadNumber" false && exmB K "BadNumber" "DividedByZero" false && exmB K "BadPower" "DividedByZero" false && exmB K "BadSide" "DividedByZero" false && exmB K "DividedByZero" "DividedByZero" true && exmB K "BadNumber" "FloorError" true && exmB K "BadPower" "FloorError" true && exmB K "BadSide" "FloorError" true && exmB K "DividedByZero" "FloorError" true && kitB K "BadNumber" "BadCount" false && kitB K "BadPower" "BadCount" false && kitB K "BadSide" "BadCount" false && kitB K "DividedByZero" "BadCount" false && kitB K "BadNumber" "BadPower" false && kitB K "BadPower" "BadPower" true && kitB K "BadSide" "BadPower" false && kitB K "DividedByZero" "BadPower" false && kitB K "BadNumber" "BadText" false && kitB K "BadPower" "BadText" false && kitB K "BadSide" "BadText" false && kitB K "DividedByZero" "BadText" false && kitB K "BadNumber" "DividedByZero" false && kitB K "BadPower" "DividedByZero" false && kitB K "BadSide" "DividedByZero" false && kitB K "DividedByZero" "DividedByZero" true && kitB K "BadNumber" "Floor" false && kitB K "BadPower" "Floor" false && kitB K "BadSide" "Floor" false && kitB K "DividedByZero" "Floor" false && kitB K "BadNumber" "FloorError" true && kitB K "BadPower" "FloorError" true && kitB K "BadSide" "FloorError" true && kitB K "DividedByZero" "FloorError" true && tabNB K TN && tab1B K "_law_two_right" && tab1B K "_law_one_right" && tab1B K "_law_is_floor_refused" && tab1B K "_law_is_great_right" && clsB K "DividedByZero" && exisB K "DividedByZero" && insB K "Floor" ["all_keys", "side"] && mkB K "Floor" && eqB K "Floor" && dflIB K (He.dflAt ("Floor", some "__init__") 0 K) [0, 0, 0, 0, 0]
abbrev R : PySem.W.OpenRow := PySem.W.OpenLaw.row PySem.Challenge.rw_nevertwice_k10_any_value_as_a_golden_num
abbrev hk : PySem.W.Hook := hookF 5 faL fn TN ex
def ob (s : PySem.W.SharedT) : He.AlD × Bool := obsF 5 faL fn TN ex (HandSHeadRun.getT s)
theorem ob_eq (s : PySem.W.SharedT) : ob s = hk.obs s.abs := obsF_eq (HandSHeadRun.getT_eq s)
def nms0 : List Str := ["gcd", "isqrt", "is_plain_integer", "is_tuple_of", "are_plain_integers", "FloorError", "BadNumber", "DividedByZero", "BadPower", "BadText", "BadSide", "BadCount", "BLOCK_DIGITS", "DIGITS", "_block", "integer_text", "is_digits", "integer_of_digits", "integer_written", "GREATEST_POWER", "is_golden", "need_golden", "_lowest", "reduced", "plus", "minus", "times", "quotient", "sign_of_parts", "_order"]
def nms1 : List Str := ["sign", "is_below", "are_equal", "integer_below", "integer_above", "is_whole", "conjugate", "power", "number_text", "read_number", "_number_written", "five_by_rule", "led_round", "with_part", "stepped", "REGULAR_SIDE", "FIRST_SIDE", "KEY_RULE", "SIDE_MARKS", "MARKED_PARTS", "Floor", "_side_written", "keys_by", "_whole_directions", "_sides_of", "_law_deck", "_law_draw", "_law_pick", "_law_integer", "_law_same"]
def nms2 : List Str := ["_law_golden", "_law_odd", "_law_bent", "_law_is_golden", "_law_value", "_law_refused", "_law_two_right", "_law_one_right", "_law_is_floor_refused", "_law_is_great_right"]
def nms : List Str := nms0 ++ nms1 ++ nms2
theorem run_of {r : PySem.W.OpenRow} {q : Program} {H : PySem.W.Hook} {ob : PySem.W.SharedT → H.α} {M : Nat} {loose : List Str} {w : World}
    (ha : Option.map (fun x => HandSHeadRun.looksF r.prog x.fst.heap x.snd.abs) (HandSHeadRun.wholeF (fun p => HandSHeadRun.stepQ (HandSHeadRun.denQ HandSHeadRun.tabQ) p w) HandSHeadRun.fenceQ M r.prog) = some true)
    (hb : Option.map (fun x => HandSHeadRun.seenQ q loose (PySem.importedModules r.prog.main.body) (fun s => PySem.W.xlAt q [] s && PySem.W.recOk r.records s) x.snd.abs) (HandSHeadRun.wholeF (fun p => HandSHeadRun.stepQ (HandSHeadRun.denQ HandSHeadRun.tabQ) p w) HandSHeadRun.fenceQ M r.prog) = some (PySem.W.openGood q loose))
    (hc : Option.map (fun x => ob x.snd) (HandSHeadRun.wholeF (fun p => HandSHeadRun.stepQ (HandSHeadRun.denQ HandSHeadRun.tabQ) p w) HandSHeadRun.fenceQ M r.prog) = some (H.val w)) : HandSHeadRun.RunEqI r q H ob M loose w := by
  unfold HandSHeadRun.RunEqI
  generalize HandSHeadRun.wholeF (fun p => HandSHeadRun.stepQ (HandSHeadRun.denQ HandSHeadRun.tabQ) p w) HandSHeadRun.fenceQ M r.prog = e at *
  cases e with
  | none => cases ha
  | some x =>
    have ha := Option.some.inj ha
    have hb := Option.some.inj hb
    have hc := Option.some.inj hc
    show some _ = some _
    dsimp only at ha hb hc ⊢
    rw [ha, hb, hc]
theorem run_fa (w : World) : Option.map (fun x => HandSHeadRun.looksF R.prog x.fst.heap x.snd.abs) (HandSHeadRun.wholeF (fun p => HandSHeadRun.stepQ (HandSHeadRun.denQ HandSHeadRun.tabQ) p (w.withFollow "special-get-raises" false)) HandSHeadRun.fenceQ 5620 R.prog) = some true := by
  kernel_rfl
theorem run_fb (w : World) : Option.map (fun x => HandSHeadRun.seenQ (PySem.W.view R.prog [0, 76]) nms (PySem.importedModules R.prog.main.body) (fun s => PySem.W.xlAt (PySem.W.view R.prog [0, 76]) [] s && PySem.W.recOk R.records s) x.snd.abs) (HandSHeadRun.wholeF (fun p => HandSHeadRun.stepQ (HandSHeadRun.denQ HandSHeadRun.tabQ) p (w.withFollow "special-get-raises" false)) HandSHeadRun.fenceQ 5620 R.prog) = some (PySem.W.openGood (PySem.W.view R.prog [0, 76]) nms) := by
  kernel_rfl
theorem run_fc (w : World) : Option.map (fun x => ob x.snd) (HandSHeadRun.wholeF (fun p => HandSHeadRun.stepQ (HandSHeadRun.denQ HandSHeadRun.tabQ) p (w.withFollow "special-get-raises" false)) HandSHeadRun.fenceQ 5620 R.prog) = some (hk.val (w.withFollow "special-get-raises" false)) := by
  kernel_rfl
theorem run_f (w : World) : HandSHeadRun.RunEqI R (PySem.W.view R.prog [0, 76]) hk ob 5620 nms (w.withFollow "special-get-raises" false) := run_of (run_fa w) (run_fb w) (run_fc w)
theorem run_ta (w : World) : Option.map (fun x => HandSHeadRun.looksF R.prog x.fst.heap x.snd.abs) (HandSHeadRun.wholeF (fun p => HandSHeadRun.stepQ (HandSHeadRun.denQ HandSHeadRun.tabQ) p (w.withFollow "special-get-raises" true)) HandSHeadRun.fenceQ 5620 R.prog) = some true := by
  kernel_rfl
theorem run_tb (w : World) : Option.map (fun x => HandSHeadRun.seenQ (PySem.W.view R.prog [0, 76]) nms (PySem.importedModules R.prog.main.body) (fun s => PySem.W.xlAt (PySem.W.view R.prog [0, 76]) [] s && PySem.W.recOk R.records s) x.snd.abs) (HandSHeadRun.wholeF (fun p => HandSHeadRun.stepQ (HandSHeadRun.denQ HandSHeadRun.tabQ) p (w.withFollow "special-get-raises" true)) HandSHeadRun.fenceQ 5620 R.prog) = some (PySem.W.openGood (PySem.W.view R.prog [0, 76]) nms) := by
  kernel_rfl
theorem run_tc (w : World) : Option.map (fun x => ob x.snd) (HandSHeadRun.wholeF (fun p => HandSHeadRun.stepQ (HandSHeadRun.denQ HandSHeadRun.tabQ) p (w.withFollow "special-get-raises" true)) HandSHeadRun.fenceQ 5620 R.prog) = some (hk.val (w.withFollow "special-get-raises" true)) := by
  kernel_rfl
theorem run_t (w : World) : HandSHeadRun.RunEqI R (PySem.W.view R.prog [0, 76]) hk ob 5620 nms (w.withFollow "special-get-raises" true) := run_of (run_ta w) (run_tb w) (run_tc w)
theorem run (w : World) : HandSHeadRun.RunEqI R (PySem.W.view R.prog [0, 76]) hk ob 5620 nms w := PySem.W.byRow2 "special-get-raises" (P := fun w => HandSHeadRun.RunEqI R (PySem.W.view R.prog [0, 76]) hk ob 5620 nms w) run_f run_t w
end K10
set_option Elab.async false
set_option linter.all false
set_option maxRecDepth 100000
set_option maxHeartbeats 4000000
namespace K10
open PySem PySem.Spec L2 DL
open PyProof.Rows hiding St
structure Tx (K : PySem.W.Frag) (mg : Str → Option Value) where
  a_is_plain_integer : Addr
  d_is_plain_integer : FuncData
  F_is_plain_integer : FnP K "is_plain_integer" s_is_plain_integer a_is_plain_integer d_is_plain_integer
  m_is_plain_integer : mg "is_plain_integer" = some (.ref a_is_plain_integer)
  a_is_tuple_of : Addr
  d_is_tuple_of : FuncData
  F_is_tuple_of : FnP K "is_tuple_of" s_is_tuple_of a_is_tuple_of d_is_tuple_of
  m_is_tuple_of : mg "is_tuple_of" = some (.ref a_is_tuple_of)
  a_are_plain_integers : Addr
  d_are_plain_integers : FuncData
  F_are_plain_integers : FnP K "are_plain_integers" s_are_plain_integers a_are_plain_integers d_are_plain_integers
  m_are_plain_integers : mg "are_plain_integers" = some (.ref a_are_plain_integers)
  a__block : Addr
  d__block : FuncData
  F__block : FnP K "_block" s__block a__block d__block
  m__block : mg "_block" = some (.ref a__block)
  a_integer_text : Addr
  d_integer_text : FuncData
  F_integer_text : FnP K "integer_text" s_integer_text a_integer_text d_integer_text
  m_integer_text : mg "integer_text" = some (.ref a_integer_text)
  a_is_golden : Addr
  d_is_golden : FuncData
  F_is_golden : FnP K "is_golden" s_is_golden a_is_golden d_is_golden
  m_is_golden : mg "is_golden" = some (.ref a_is_golden)
  a_need_golden : Addr
  d_need_golden : FuncData
  F_need_golden : FnP K "need_golden" s_need_golden a_need_golden d_need_golden
  m_need_golden : mg "need_golden" = some (.ref a_need_golden)
  a__lowest : Addr
  d__lowest : FuncData
  F__lowest : FnP K "_lowest" s__lowest a__lowest d__lowest
  m__lowest : mg "_lowest" = some (.ref a__lowest)
  a_reduced : Addr
  d_reduced : FuncData
  F_reduced : FnP K "reduced" s_reduced a_reduced d_reduced
  m_reduced : mg "reduced" = some (.ref a_reduced)
  a_plus : Addr
  d_plus : FuncData
  F_plus : FnP K "plus" s_plus a_plus d_plus
  m_plus : mg "plus" = some (.ref a_plus)
  a_minus : Addr
  d_minus : FuncData
  F_minus : FnP K "minus" s_minus a_minus d_minus
  m_minus : mg "minus" = some (.ref a_minus)
  a_times : Addr
  d_times : FuncData
  F_times : FnP K "times" s_times a_times d_times
  m_times : mg "times" = some (.ref a_times)
  a_quotient : Addr
  d_quotient : FuncData
  F_quotient : FnP K "quotient" s_quotient a_quotient d_quotient
  m_quotient : mg "quotient" = some (.ref a_quotient)
  a_sign_of_parts : Addr
  d_sign_of_parts : FuncData
  F_sign_of_parts : FnP K "sign_of_parts" s_sign_of_parts a_sign_of_parts d_sign_of_parts
  m_sign_of_parts : mg "sign_of_parts" = some (.ref a_sign_of_parts)
  a__order : Addr
  d__order : FuncData
  F__order : FnP K "_order" s__order a__order d__order
  m__order : mg "_order" = some (.ref a__order)
  a_sign : Addr
  d_sign : FuncData
  F_sign : FnP K "sign" s_sign a_sign d_sign
  m_sign : mg "sign" = some (.ref a_sign)
  a_is_below : Addr
  d_is_below : FuncData
  F_is_below : FnP K "is_below" s_is_below a_is_below d_is_below
  m_is_below : mg "is_below" = some (.ref a_is_below)
  a_are_equal : Addr
  d_are_equal : FuncData
  F_are_equal : FnP K "are_equal" s_are_equal a_are_equal d_are_equal
  m_are_equal : mg "are_equal" = some (.ref a_are_equal)
  a_integer_below : Addr
  d_integer_below : FuncData
  F_integer_below : FnP K "integer_below" s_integer_below a_integer_below d_integer_below
  m_integer_below : mg "integer_below" = some (.ref a_integer_below)
  a_integer_above : Addr
  d_integer_above : FuncData
  F_integer_above : FnP K "integer_above" s_integer_above a_integer_above d_integer_above
  m_integer_above : mg "integer_above" = some (.ref a_integer_above)
  a_is_whole : Addr
  d_is_whole : FuncData
  F_is_whole : FnP K "is_whole" s_is_whole a_is_whole d_is_whole
  m_is_whole : mg "is_whole" = some (.ref a_is_whole)
  a_conjugate : Addr
  d_conjugate : FuncData
  F_conjugate : FnP K "conjugate" s_conjugate a_conjugate d_conjugate
  m_conjugate : mg "conjugate" = some (.ref a_conjugate)
  a_power : Addr
  d_power : FuncData
  F_power : FnP K "power" s_power a_power d_power
  m_power : mg "power" = some (.ref a_power)
  a_number_text : Addr
  d_number_text : FuncData
  F_number_text : FnP K "number_text" s_number_text a_number_text d_number_text
  m_number_text : mg "number_text" = some (.ref a_number_text)
  a_five_by_rule : Addr
  d_five_by_rule : FuncData
  F_five_by_rule : FnP K "five_by_rule" s_five_by_rule a_five_by_rule d_five_by_rule
  m_five_by_rule : mg "five_by_rule" = some (.ref a_five_by_rule)
  a_led_round : Addr
  d_led_round : FuncData
  F_led_round : FnP K "led_round" s_led_round a_led_round d_led_round
  m_led_round : mg "led_round" = some (.ref a_led_round)
  a_with_part : Addr
  d_with_part : FuncData
  F_with_part : FnP K "with_part" s_with_part a_with_part d_with_part
  m_with_part : mg "with_part" = some (.ref a_with_part)
  a_stepped : Addr
  d_stepped : FuncData
  F_stepped : FnP K "stepped" s_stepped a_stepped d_stepped
  m_stepped : mg "stepped" = some (.ref a_stepped)
  a_keys_by : Addr
  d_keys_by : FuncData
  F_keys_by : FnP K "keys_by" s_keys_by a_keys_by d_keys_by
  m_keys_by : mg "keys_by" = some (.ref a_keys_by)
  a__whole_directions : Addr
  d__whole_directions : FuncData
  F__whole_directions : FnP K "_whole_directions" s__whole_directions a__whole_directions d__whole_directions
  m__whole_directions : mg "_whole_directions" = some (.ref a__whole_directions)
  a__sides_of : Addr
  d__sides_of : FuncData
  F__sides_of : FnP K "_sides_of" s__sides_of a__sides_of d__sides_of
  m__sides_of : mg "_sides_of" = some (.ref a__sides_of)
  v_Floor_init : Addr
  V_Floor_init : SqT K NK v_Floor_init (List.map V.int [0, 0, 0, 0, 0])
  a_Floor_init : Addr
  d_Floor_init : FuncData
  F_Floor_init : FunD K "__init__" "Floor.__init__" (defArgs s_Floor_init) (defBody s_Floor_init) (defScope s_Floor_init) [.ref v_Floor_init] [] a_Floor_init d_Floor_init
  a_Floor_eq : Addr
  d_Floor_eq : FuncData
  F_Floor_eq : FunD K "__eq__" "Floor.__eq__" (defArgs s_Floor_eq) (defBody s_Floor_eq) (defScope s_Floor_eq) [] [] a_Floor_eq d_Floor_eq
  a__law_deck : Addr
  d__law_deck : FuncData
  F__law_deck : FnP K "_law_deck" s__law_deck a__law_deck d__law_deck
  m__law_deck : mg "_law_deck" = some (.ref a__law_deck)
  a__law_draw : Addr
  d__law_draw : FuncData
  F__law_draw : FnP K "_law_draw" s__law_draw a__law_draw d__law_draw
  m__law_draw : mg "_law_draw" = some (.ref a__law_draw)
  a__law_pick : Addr
  d__law_pick : FuncData
  F__law_pick : FnP K "_law_pick" s__law_pick a__law_pick d__law_pick
  m__law_pick : mg "_law_pick" = some (.ref a__law_pick)
  a__law_integer : Addr
  d__law_integer : FuncData
  F__law_integer : FnP K "_law_integer" s__law_integer a__law_integer d__law_integer
  m__law_integer : mg "_law_integer" = some (.ref a__law_integer)
  a__law_same : Addr
  d__law_same : FuncData
  F__law_same : FnP K "_law_same" s__law_same a__law_same d__law_same
  m__law_same : mg "_law_same" = some (.ref a__law_same)
  a__law_golden : Addr
  d__law_golden : FuncData
  F__law_golden : FnP K "_law_golden" s__law_golden a__law_golden d__law_golden
  m__law_golden : mg "_law_golden" = some (.ref a__law_golden)
  a__law_odd : Addr
  d__law_odd : FuncData
  F__law_odd : FnP K "_law_odd" s__law_odd a__law_odd d__law_odd
  m__law_odd : mg "_law_odd" = some (.ref a__law_odd)
  a__law_bent : Addr
  d__law_bent : FuncData
  F__law_bent : FnP K "_law_bent" s__law_bent a__law_bent d__law_bent
  m__law_bent : mg "_law_bent" = some (.ref a__law_bent)
  a__law_is_golden : Addr
  d__law_is_golden : FuncData
  F__law_is_golden : FnP K "_law_is_golden" s__law_is_golden a__law_is_golden d__law_is_golden
  m__law_is_golden : mg "_law_is_golden" = some (.ref a__law_is_golden)
  a__law_value : Addr
  d__law_value : FuncData
  F__law_value : FnP K "_law_value" s__law_value a__law_value d__law_value
  m__law_value : mg "_law_value" = some (.ref a__law_value)
  a__law_refused : Addr
  d__law_refused : FuncData
  F__law_refused : FnP K "_law_refused" s__law_refused a__law_refused d__law_refused
  m__law_refused : mg "_law_refused" = some (.ref a__law_refused)
  a__law_two_right : Addr
  d__law_two_right : FuncData
  F__law_two_right : FnP K "_law_two_right" s__law_two_right a__law_two_right d__law_two_right
  m__law_two_right : mg "_law_two_right" = some (.ref a__law_two_right)
  a__law_one_right : Addr
  d__law_one_right : FuncData
  F__law_one_right : FnP K "_law_one_right" s__law_one_right a__law_one_right d__law_one_right
  m__law_one_right : mg "_law_one_right" = some (.ref a__law_one_right)
  a__law_is_floor_refused : Addr
  d__law_is_floor_refused : FuncData
  F__law_is_floor_refused : FnP K "_law_is_floor_refused" s__law_is_floor_refused a__law_is_floor_refused d__law_is_floor_refused
  m__law_is_floor_refused : mg "_law_is_floor_refused" = some (.ref a__law_is_floor_refused)
  a__law_is_great_right : Addr
  d__law_is_great_right : FuncData
  F__law_is_great_right : FnP K "_law_is_great_right" s__law_is_great_right a__law_is_great_right d__law_is_great_right
  m__law_is_great_right : mg "_law_is_great_right" = some (.ref a__law_is_great_right)
  a_law : Addr
  d_law : FuncData
  F_law : FnP K "law" s_law a_law d_law
  m_law : mg "law" = some (.ref a_law)
  n_abs : mg "abs" = none
  n_all : mg "all" = none
  n_bool : mg "bool" = none
  n_divmod : mg "divmod" = none
  n_int : mg "int" = none
  n_isinstance : mg "isinstance" = none
  n_len : mg "len" = none
  n_list : mg "list" = none
  n_max : mg "max" = none
  n_range : mg "range" = none
  n_repr : mg "repr" = none
  n_str : mg "str" = none
  n_tuple : mg "tuple" = none
  i_gcd : mg "gcd" = some (.builtin "math.gcd")
  i_isqrt : mg "isqrt" = some (.builtin "math.isqrt")
  k_BLOCK_DIGITS : ∃ t, mg "BLOCK_DIGITS" = some (.int 512 t)
  k_FIRST_SIDE : mg "FIRST_SIDE" = some (.ref (He.ga K "FIRST_SIDE")) ∧ SqT K NK (He.ga K "FIRST_SIDE") (List.map V.int [1, -1, 1, 1, -1])
  k_GREATEST_POWER : ∃ t, mg "GREATEST_POWER" = some (.int 2000 t)
  k_KEY_RULE : mg "KEY_RULE" = some (.ref (He.ga K "KEY_RULE")) ∧ SqT K NK (He.ga K "KEY_RULE") (List.map V.int [0, -1, 1])
  k_REGULAR_SIDE : mg "REGULAR_SIDE" = some (.ref (He.ga K "REGULAR_SIDE")) ∧ SqT K NK (He.ga K "REGULAR_SIDE") (List.map V.int [0, 0, 0, 0, 0])
  I_Floor : InsK K "Floor" ["all_keys", "side"]
  M_Floor : Mk K (insA K "Floor") a_Floor_init
  g_Floor : mg "Floor" = some (.ref (insA K "Floor"))
  E_Floor : PySem.W.findIn K (.ref (insA K "Floor")) "__eq__" = some (some (.ref a_Floor_eq)) ∧ PySem.W.isFn K (.ref a_Floor_eq) = true
  mx : mxB K = true
  sm : smB K = true
  c_BadNumber : Addr
  f_BadNumber : Addr
  X_BadNumber : ExF K mg "BadNumber" "thing" c_BadNumber f_BadNumber
  j_BadNumber : FuncData
  G_BadNumber : FunD K "__init__" "BadNumber.__init__" (defArgs i_BadNumber) (defBody i_BadNumber) (defScope i_BadNumber) [] [] f_BadNumber j_BadNumber
  S_BadNumber : ∃ C, clsAt K "BadNumber" = .ref C ∧ ExIs K C
  c_BadPower : Addr
  f_BadPower : Addr
  X_BadPower : ExF K mg "BadPower" "thing" c_BadPower f_BadPower
  j_BadPower : FuncData
  G_BadPower : FunD K "__init__" "BadPower.__init__" (defArgs i_BadPower) (defBody i_BadPower) (defScope i_BadPower) [] [] f_BadPower j_BadPower
  S_BadPower : ∃ C, clsAt K "BadPower" = .ref C ∧ ExIs K C
  c_BadSide : Addr
  f_BadSide : Addr
  X_BadSide : ExF K mg "BadSide" "thing" c_BadSide f_BadSide
  j_BadSide : FuncData
  G_BadSide : FunD K "__init__" "BadSide.__init__" (defArgs i_BadSide) (defBody i_BadSide) (defScope i_BadSide) [] [] f_BadSide j_BadSide
  S_BadSide : ∃ C, clsAt K "BadSide" = .ref C ∧ ExIs K C
  r_BadCount : Addr
  R_BadCount : clsAt K "BadCount" = .ref r_BadCount ∧ mg "BadCount" = some (.ref r_BadCount)
  r_BadNumber : Addr
  R_BadNumber : clsAt K "BadNumber" = .ref r_BadNumber ∧ mg "BadNumber" = some (.ref r_BadNumber)
  r_BadPower : Addr
  R_BadPower : clsAt K "BadPower" = .ref r_BadPower ∧ mg "BadPower" = some (.ref r_BadPower)
  r_BadText : Addr
  R_BadText : clsAt K "BadText" = .ref r_BadText ∧ mg "BadText" = some (.ref r_BadText)
  r_DividedByZero : Addr
  R_DividedByZero : clsAt K "DividedByZero" = .ref r_DividedByZero ∧ mg "DividedByZero" = some (.ref r_DividedByZero)
  r_Floor : Addr
  R_Floor : clsAt K "Floor" = .ref r_Floor ∧ mg "Floor" = some (.ref r_Floor)
  r_FloorError : Addr
  R_FloorError : clsAt K "FloorError" = .ref r_FloorError ∧ mg "FloorError" = some (.ref r_FloorError)
  e_BadNumber_BadNumber : PySem.W.exmOne K (clsAt K "BadNumber") (clsAt K "BadNumber") = some true
  e_BadPower_BadNumber : PySem.W.exmOne K (clsAt K "BadPower") (clsAt K "BadNumber") = some false
  e_BadSide_BadNumber : PySem.W.exmOne K (clsAt K "BadSide") (clsAt K "BadNumber") = some false
  e_DividedByZero_BadNumber : PySem.W.exmOne K (clsAt K "DividedByZero") (clsAt K "BadNumber") = some false
  e_BadNumber_DividedByZero : PySem.W.exmOne K (clsAt K "BadNumber") (clsAt K "DividedByZero") = some false
  e_BadPower_DividedByZero : PySem.W.exmOne K (clsAt K "BadPower") (clsAt K "DividedByZero") = some false
  e_BadSide_DividedByZero : PySem.W.exmOne K (clsAt K "BadSide") (clsAt K "DividedByZero") = some false
  e_DividedByZero_DividedByZero : PySem.W.exmOne K (clsAt K "DividedByZero") (clsAt K "DividedByZero") = some true
  e_BadNumber_FloorError : PySem.W.exmOne K (clsAt K "BadNumber") (clsAt K "FloorError") = some true
  e_BadPower_FloorError : PySem.W.exmOne K (clsAt K "BadPower") (clsAt K "FloorError") = some true
  e_BadSide_FloorError : PySem.W.exmOne K (clsAt K "BadSide") (clsAt K "FloorError") = some true
  e_DividedByZero_FloorError : PySem.W.exmOne K (clsAt K "DividedByZero") (clsAt K "FloorError") = some true
  k_BadNumber_BadCount : PySem.W.kitOne K (clsAt K "BadNumber") (clsAt K "BadCount") = some false
  k_BadPower_BadCount : PySem.W.kitOne K (clsAt K "BadPower") (clsAt K "BadCount") = some false
  k_BadSide_BadCount : PySem.W.kitOne K (clsAt K "BadSide") (clsAt K "BadCount") = some false
  k_DividedByZero_BadCount : PySem.W.kitOne K (clsAt K "DividedByZero") (clsAt K "BadCount") = some false
  k_BadNumber_BadPower : PySem.W.kitOne K (clsAt K "BadNumber") (clsAt K "BadPower") = some false
  k_BadPower_BadPower : PySem.W.kitOne K (clsAt K "BadPower") (clsAt K "BadPower") = some true
  k_BadSide_BadPower : PySem.W.kitOne K (clsAt K "BadSide") (clsAt K "BadPower") = some false
  k_DividedByZero_BadPower : PySem.W.kitOne K (clsAt K "DividedByZero") (clsAt K "BadPower") = some false
  k_BadNumber_BadText : PySem.W.kitOne K (clsAt K "BadNumber") (clsAt K "BadText") = some false
  k_BadPower_BadText : PySem.W.kitOne K (clsAt K "BadPower") (clsAt K "BadText") = some false
  k_BadSide_BadText : PySem.W.kitOne K (clsAt K "BadSide") (clsAt K "BadText") = some false
  k_DividedByZero_BadText : PySem.W.kitOne K (clsAt K "DividedByZero") (clsAt K "BadText") = some false
  k_BadNumber_DividedByZero : PySem.W.kitOne K (clsAt K "BadNumber") (clsAt K "DividedByZero") = some false
  k_BadPower_DividedByZero : PySem.W.kitOne K (clsAt K "BadPower") (clsAt K "DividedByZero") = some false
  k_BadSide_DividedByZero : PySem.W.kitOne K (clsAt K "BadSide") (clsAt K "DividedByZero") = some false
  k_DividedByZero_DividedByZero : PySem.W.kitOne K (clsAt K "DividedByZero") (clsAt K "DividedByZero") = some true
  k_BadNumber_Floor : PySem.W.kitOne K (clsAt K "BadNumber") (clsAt K "Floor") = some false
  k_BadPower_Floor : PySem.W.kitOne K (clsAt K "BadPower") (clsAt K "Floor") = some false
  k_BadSide_Floor : PySem.W.kitOne K (clsAt K "BadSide") (clsAt K "Floor") = some false
  k_DividedByZero_Floor : PySem.W.kitOne K (clsAt K "DividedByZero") (clsAt K "Floor") = some false
  k_BadNumber_FloorError : PySem.W.kitOne K (clsAt K "BadNumber") (clsAt K "FloorError") = some true
  k_BadPower_FloorError : PySem.W.kitOne K (clsAt K "BadPower") (clsAt K "FloorError") = some true
  k_BadSide_FloorError : PySem.W.kitOne K (clsAt K "BadSide") (clsAt K "FloorError") = some true
  k_DividedByZero_FloorError : PySem.W.kitOne K (clsAt K "DividedByZero") (clsAt K "FloorError") = some true
  T__law_two_right : TabF K "_law_two_right"
  E__law_two_right : a__law_two_right = He.fAd K ("_law_two_right", none)
  T__law_one_right : TabF K "_law_one_right"
  E__law_one_right : a__law_one_right = He.fAd K ("_law_one_right", none)
  T__law_is_floor_refused : TabF K "_law_is_floor_refused"
  E__law_is_floor_refused : a__law_is_floor_refused = He.fAd K ("_law_is_floor_refused", none)
  T__law_is_great_right : TabF K "_law_is_great_right"
  E__law_is_great_right : a__law_is_great_right = He.fAd K ("_law_is_great_right", none)
  a_DividedByZero : Addr
  C_DividedByZero : ClsF K mg "DividedByZero" a_DividedByZero
  S_DividedByZero : ∃ C, clsAt K "DividedByZero" = .ref C ∧ ExIs K C
section
variable {P : Program} {w : World} {K : PySem.W.Frag} {mg : Str → Option Value} {base : Heap}
theorem it_BadNumber : InitTx "thing" (defBody i_BadNumber) (defScope i_BadNumber) := ⟨⟨_, _, _, _, rfl⟩, rfl, rfl, rfl, rfl, rfl, by decide, by decide, by decide⟩
theorem bi_BadNumber (t : Tx K mg) : Binds K t.j_BadNumber ["self", "thing"] [] := t.G_BadNumber.bindsN fun _ _ _ _ _ _ us hl => match us, hl with | [_, _], _ => rfl
theorem it_BadPower : InitTx "thing" (defBody i_BadPower) (defScope i_BadPower) := ⟨⟨_, _, _, _, rfl⟩, rfl, rfl, rfl, rfl, rfl, by decide, by decide, by decide⟩
theorem bi_BadPower (t : Tx K mg) : Binds K t.j_BadPower ["self", "thing"] [] := t.G_BadPower.bindsN fun _ _ _ _ _ _ us hl => match us, hl with | [_, _], _ => rfl
theorem it_BadSide : InitTx "thing" (defBody i_BadSide) (defScope i_BadSide) := ⟨⟨_, _, _, _, rfl⟩, rfl, rfl, rfl, rfl, rfl, by decide, by decide, by decide⟩
theorem bi_BadSide (t : Tx K mg) : Binds K t.j_BadSide ["self", "thing"] [] := t.G_BadSide.bindsN fun _ _ _ _ _ _ us hl => match us, hl with | [_, _], _ => rfl
def mm_BadNumber (n : Str) : Option Bool := if n = "BadNumber" then some true else if n = "BadPower" then some false else if n = "BadSide" then some false else if n = "DividedByZero" then some false else none
theorem hm_BadNumber (t : Tx K mg) : ∀ n b, mm_BadNumber n = some b → PySem.W.exmOne K (clsAt K n) (.ref t.r_BadNumber) = some b := by
  intro n b h
  rw [← t.R_BadNumber.1]
  unfold mm_BadNumber at h
  split at h
  · rename_i e
    subst e
    cases h
    exact t.e_BadNumber_BadNumber
  split at h
  · rename_i e
    subst e
    cases h
    exact t.e_BadPower_BadNumber
  split at h
  · rename_i e
    subst e
    cases h
    exact t.e_BadSide_BadNumber
  split at h
  · rename_i e
    subst e
    cases h
    exact t.e_DividedByZero_BadNumber
  cases h
theorem xf_BadNumber (t : Tx K mg) {n : Str} (h : mm_BadNumber n = some true) : ∃ C, clsAt K n = .ref C ∧ XfC K C ∧ PySem.W.findIn K (.ref C) "thing" = some none := by
  unfold mm_BadNumber at h
  split at h
  · rename_i e
    subst e
    exact ⟨_, t.X_BadNumber.at_, t.X_BadNumber.xf, t.X_BadNumber.no⟩
  split at h
  · rename_i e
    subst e
    exact ⟨_, t.X_BadPower.at_, t.X_BadPower.xf, t.X_BadPower.no⟩
  split at h
  · rename_i e
    subst e
    exact ⟨_, t.X_BadSide.at_, t.X_BadSide.xf, t.X_BadSide.no⟩
  split at h
  · cases h
  cases h
theorem es_BadNumber (t : Tx K mg) {n : Str} (h : mm_BadNumber n = some true) : ∃ C, clsAt K n = .ref C ∧ ExIs K C := by
  unfold mm_BadNumber at h
  split at h
  · rename_i e
    subst e
    exact t.S_BadNumber
  split at h
  · rename_i e
    subst e
    exact t.S_BadPower
  split at h
  · rename_i e
    subst e
    exact t.S_BadSide
  split at h
  · cases h
  cases h
def mm_DividedByZero (n : Str) : Option Bool := if n = "BadNumber" then some false else if n = "BadPower" then some false else if n = "BadSide" then some false else if n = "DividedByZero" then some true else none
theorem hm_DividedByZero (t : Tx K mg) : ∀ n b, mm_DividedByZero n = some b → PySem.W.exmOne K (clsAt K n) (.ref t.r_DividedByZero) = some b := by
  intro n b h
  rw [← t.R_DividedByZero.1]
  unfold mm_DividedByZero at h
  split at h
  · rename_i e
    subst e
    cases h
    exact t.e_BadNumber_DividedByZero
  split at h
  · rename_i e
    subst e
    cases h
    exact t.e_BadPower_DividedByZero
  split at h
  · rename_i e
    subst e
    cases h
    exact t.e_BadSide_DividedByZero
  split at h
  · rename_i e
    subst e
    cases h
    exact t.e_DividedByZero_DividedByZero
  cases h
theorem es_DividedByZero (t : Tx K mg) {n : Str} (h : mm_DividedByZero n = some true) : ∃ C, clsAt K n = .ref C ∧ ExIs K C := by
  unfold mm_DividedByZero at h
  split at h
  · rename_i e
    subst e
    exact t.S_BadNumber
  split at h
  · rename_i e
    subst e
    exact t.S_BadPower
  split at h
  · rename_i e
    subst e
    exact t.S_BadSide
  split at h
  · rename_i e
    subst e
    exact t.S_DividedByZero
  cases h
def mm_FloorError (n : Str) : Option Bool := if n = "BadNumber" then some true else if n = "BadPower" then some true else if n = "BadSide" then some true else if n = "DividedByZero" then some true else none
theorem hm_FloorError (t : Tx K mg) : ∀ n b, mm_FloorError n = some b → PySem.W.exmOne K (clsAt K n) (.ref t.r_FloorError) = some b := by
  intro n b h
  rw [← t.R_FloorError.1]
  unfold mm_FloorError at h
  split at h
  · rename_i e
    subst e
    cases h
    exact t.e_BadNumber_FloorError
  split at h
  · rename_i e
    subst e
    cases h
    exact t.e_BadPower_FloorError
  split at h
  · rename_i e
    subst e
    cases h
    exact t.e_BadSide_FloorError
  split at h
  · rename_i e
    subst e
    cases h
    exact t.e_DividedByZero_FloorError
  cases h
def is_BadCount (n : Str) : Option Bool := if n = "BadNumber" then some false else if n = "BadPower" then some false else if n = "BadSide" then some false else if n = "DividedByZero" then some false else none
theorem kt_BadCount (t : Tx K mg) : ∀ n b, is_BadCount n = some b → PySem.W.kitOne K (clsAt K n) (.ref t.r_BadCount) = some b := by
  intro n b h
  rw [← t.R_BadCount.1]
  unfold is_BadCount at h
  split at h
  · rename_i e
    subst e
    cases h
    exact t.k_BadNumber_BadCount
  split at h
  · rename_i e
    subst e
    cases h
    exact t.k_BadPower_BadCount
  split at h
  · rename_i e
    subst e
    cases h
    exact t.k_BadSide_BadCount
  split at h
  · rename_i e
    subst e
    cases h
    exact t.k_DividedByZero_BadCount
  cases h
def is_BadPower (n : Str) : Option Bool := if n = "BadNumber" then some false else if n = "BadPower" then some true else if n = "BadSide" then some false else if n = "DividedByZero" then some false else none
theorem kt_BadPower (t : Tx K mg) : ∀ n b, is_BadPower n = some b → PySem.W.kitOne K (clsAt K n) (.ref t.r_BadPower) = some b := by
  intro n b h
  rw [← t.R_BadPower.1]
  unfold is_BadPower at h
  split at h
  · rename_i e
    subst e
    cases h
    exact t.k_BadNumber_BadPower
  split at h
  · rename_i e
    subst e
    cases h
    exact t.k_BadPower_BadPower
  split at h
  · rename_i e
    subst e
    cases h
    exact t.k_BadSide_BadPower
  split at h
  · rename_i e
    subst e
    cases h
    exact t.k_DividedByZero_BadPower
  cases h
def is_BadText (n : Str) : Option Bool := if n = "BadNumber" then some false else if n = "BadPower" then some false else if n = "BadSide" then some false else if n = "DividedByZero" then some false else none
theorem kt_BadText (t : Tx K mg) : ∀ n b, is_BadText n = some b → PySem.W.kitOne K (clsAt K n) (.ref t.r_BadText) = some b := by
  intro n b h
  rw [← t.R_BadText.1]
  unfold is_BadText at h
  split at h
  · rename_i e
    subst e
    cases h
    exact t.k_BadNumber_BadText
  split at h
  · rename_i e
    subst e
    cases h
    exact t.k_BadPower_BadText
  split at h
  · rename_i e
    subst e
    cases h
    exact t.k_BadSide_BadText
  split at h
  · rename_i e
    subst e
    cases h
    exact t.k_DividedByZero_BadText
  cases h
def is_DividedByZero (n : Str) : Option Bool := if n = "BadNumber" then some false else if n = "BadPower" then some false else if n = "BadSide" then some false else if n = "DividedByZero" then some true else none
theorem kt_DividedByZero (t : Tx K mg) : ∀ n b, is_DividedByZero n = some b → PySem.W.kitOne K (clsAt K n) (.ref t.r_DividedByZero) = some b := by
  intro n b h
  rw [← t.R_DividedByZero.1]
  unfold is_DividedByZero at h
  split at h
  · rename_i e
    subst e
    cases h
    exact t.k_BadNumber_DividedByZero
  split at h
  · rename_i e
    subst e
    cases h
    exact t.k_BadPower_DividedByZero
  split at h
  · rename_i e
    subst e
    cases h
    exact t.k_BadSide_DividedByZero
  split at h
  · rename_i e
    subst e
    cases h
    exact t.k_DividedByZero_DividedByZero
  cases h
def is_Floor (n : Str) : Option Bool := if n = "BadNumber" then some false else if n = "BadPower" then some false else if n = "BadSide" then some false else if n = "DividedByZero" then some false else none
theorem kt_Floor (t : Tx K mg) : ∀ n b, is_Floor n = some b → PySem.W.kitOne K (clsAt K n) (.ref t.r_Floor) = some b := by
  intro n b h
  rw [← t.R_Floor.1]
  unfold is_Floor at h
  split at h
  · rename_i e
    subst e
    cases h
    exact t.k_BadNumber_Floor
  split at h
  · rename_i e
    subst e
    cases h
    exact t.k_BadPower_Floor
  split at h
  · rename_i e
    subst e
    cases h
    exact t.k_BadSide_Floor
  split at h
  · rename_i e
    subst e
    cases h
    exact t.k_DividedByZero_Floor
  cases h
def is_FloorError (n : Str) : Option Bool := if n = "BadNumber" then some true else if n = "BadPower" then some true else if n = "BadSide" then some true else if n = "DividedByZero" then some true else none
theorem kt_FloorError (t : Tx K mg) : ∀ n b, is_FloorError n = some b → PySem.W.kitOne K (clsAt K n) (.ref t.r_FloorError) = some b := by
  intro n b h
  rw [← t.R_FloorError.1]
  unfold is_FloorError at h
  split at h
  · rename_i e
    subst e
    cases h
    exact t.k_BadNumber_FloorError
  split at h
  · rename_i e
    subst e
    cases h
    exact t.k_BadPower_FloorError
  split at h
  · rename_i e
    subst e
    cases h
    exact t.k_BadSide_FloorError
  split at h
  · rename_i e
    subst e
    cases h
    exact t.k_DividedByZero_FloorError
  cases h
theorem sc_is_plain_integer : FnScope ["thing"] ["thing"] (defScope s_is_plain_integer) := ⟨rfl, rfl, rfl, by decide +kernel, rfl, by decide +kernel, by decide +kernel⟩
theorem b_is_plain_integer (t : Tx K mg) : Binds K t.d_is_plain_integer ["thing"] [] := t.F_is_plain_integer.bindsN fun _ _ _ _ _ _ us hl => match us, hl with | [_], _ => rfl
theorem sc_is_tuple_of : FnScope ["thing", "many"] ["thing", "many"] (defScope s_is_tuple_of) := ⟨rfl, rfl, rfl, by decide +kernel, rfl, by decide +kernel, by decide +kernel⟩
theorem b_is_tuple_of (t : Tx K mg) : Binds K t.d_is_tuple_of ["thing", "many"] [] := t.F_is_tuple_of.bindsN fun _ _ _ _ _ _ us hl => match us, hl with | [_, _], _ => rfl
theorem sc_are_plain_integers : FnScope ["thing", "many", "part"] ["thing", "many"] (defScope s_are_plain_integers) := ⟨rfl, rfl, rfl, by decide +kernel, rfl, by decide +kernel, by decide +kernel⟩
theorem b_are_plain_integers (t : Tx K mg) : Binds K t.d_are_plain_integers ["thing", "many"] [] := t.F_are_plain_integers.bindsN fun _ _ _ _ _ _ us hl => match us, hl with | [_, _], _ => rfl
theorem sc__block : FnScope [] [] (defScope s__block) := ⟨rfl, rfl, rfl, by decide +kernel, rfl, by decide +kernel, by decide +kernel⟩
theorem b__block (t : Tx K mg) : Binds K t.d__block [] [] := t.F__block.bindsN fun _ _ _ _ _ _ us hl => match us, hl with | [], _ => rfl
theorem sc_integer_text : FnScope ["number", "block", "rest", "parts", "low"] ["number"] (defScope s_integer_text) := ⟨rfl, rfl, rfl, by decide +kernel, rfl, by decide +kernel, by decide +kernel⟩
theorem b_integer_text (t : Tx K mg) : Binds K t.d_integer_text ["number"] [] := t.F_integer_text.bindsN fun _ _ _ _ _ _ us hl => match us, hl with | [_], _ => rfl
theorem sc_is_golden : FnScope ["thing", "a", "b", "d"] ["thing"] (defScope s_is_golden) := ⟨rfl, rfl, rfl, by decide +kernel, rfl, by decide +kernel, by decide +kernel⟩
theorem b_is_golden (t : Tx K mg) : Binds K t.d_is_golden ["thing"] [] := t.F_is_golden.bindsN fun _ _ _ _ _ _ us hl => match us, hl with | [_], _ => rfl
theorem sc_need_golden : FnScope ["thing"] ["thing"] (defScope s_need_golden) := ⟨rfl, rfl, rfl, by decide +kernel, rfl, by decide +kernel, by decide +kernel⟩
theorem b_need_golden (t : Tx K mg) : Binds K t.d_need_golden ["thing"] [] := t.F_need_golden.bindsN fun _ _ _ _ _ _ us hl => match us, hl with | [_], _ => rfl
theorem sc__lowest : FnScope ["a", "b", "d", "common"] ["a", "b", "d"] (defScope s__lowest) := ⟨rfl, rfl, rfl, by decide +kernel, rfl, by decide +kernel, by decide +kernel⟩
theorem b__lowest (t : Tx K mg) : Binds K t.d__lowest ["a", "b", "d"] [] := t.F__lowest.bindsN fun _ _ _ _ _ _ us hl => match us, hl with | [_, _, _], _ => rfl
theorem sc_reduced : FnScope ["number", "a", "b", "d"] ["number"] (defScope s_reduced) := ⟨rfl, rfl, rfl, by decide +kernel, rfl, by decide +kernel, by decide +kernel⟩
theorem b_reduced (t : Tx K mg) : Binds K t.d_reduced ["number"] [] := t.F_reduced.bindsN fun _ _ _ _ _ _ us hl => match us, hl with | [_], _ => rfl
theorem sc_plus : FnScope ["one", "other", "a", "b", "d", "c", "e", "f"] ["one", "other"] (defScope s_plus) := ⟨rfl, rfl, rfl, by decide +kernel, rfl, by decide +kernel, by decide +kernel⟩
theorem b_plus (t : Tx K mg) : Binds K t.d_plus ["one", "other"] [] := t.F_plus.bindsN fun _ _ _ _ _ _ us hl => match us, hl with | [_, _], _ => rfl
theorem sc_minus : FnScope ["one", "other", "a", "b", "d", "c", "e", "f"] ["one", "other"] (defScope s_minus) := ⟨rfl, rfl, rfl, by decide +kernel, rfl, by decide +kernel, by decide +kernel⟩
theorem b_minus (t : Tx K mg) : Binds K t.d_minus ["one", "other"] [] := t.F_minus.bindsN fun _ _ _ _ _ _ us hl => match us, hl with | [_, _], _ => rfl
theorem sc_times : FnScope ["one", "other", "a", "b", "d", "c", "e", "f"] ["one", "other"] (defScope s_times) := ⟨rfl, rfl, rfl, by decide +kernel, rfl, by decide +kernel, by decide +kernel⟩
theorem b_times (t : Tx K mg) : Binds K t.d_times ["one", "other"] [] := t.F_times.bindsN fun _ _ _ _ _ _ us hl => match us, hl with | [_, _], _ => rfl
theorem sc_quotient : FnScope ["one", "other", "a", "b", "d", "c", "e", "f", "norm"] ["one", "other"] (defScope s_quotient) := ⟨rfl, rfl, rfl, by decide +kernel, rfl, by decide +kernel, by decide +kernel⟩
theorem b_quotient (t : Tx K mg) : Binds K t.d_quotient ["one", "other"] [] := t.F_quotient.bindsN fun _ _ _ _ _ _ us hl => match us, hl with | [_, _], _ => rfl
theorem sc_sign_of_parts : FnScope ["a", "b", "front", "does_front_win"] ["a", "b"] (defScope s_sign_of_parts) := ⟨rfl, rfl, rfl, by decide +kernel, rfl, by decide +kernel, by decide +kernel⟩
theorem b_sign_of_parts (t : Tx K mg) : Binds K t.d_sign_of_parts ["a", "b"] [] := t.F_sign_of_parts.bindsN fun _ _ _ _ _ _ us hl => match us, hl with | [_, _], _ => rfl
theorem sc__order : FnScope ["one", "other", "a", "b", "d", "c", "e", "f"] ["one", "other"] (defScope s__order) := ⟨rfl, rfl, rfl, by decide +kernel, rfl, by decide +kernel, by decide +kernel⟩
theorem b__order (t : Tx K mg) : Binds K t.d__order ["one", "other"] [] := t.F__order.bindsN fun _ _ _ _ _ _ us hl => match us, hl with | [_, _], _ => rfl
theorem sc_sign : FnScope ["number"] ["number"] (defScope s_sign) := ⟨rfl, rfl, rfl, by decide +kernel, rfl, by decide +kernel, by decide +kernel⟩
theorem b_sign (t : Tx K mg) : Binds K t.d_sign ["number"] [] := t.F_sign.bindsN fun _ _ _ _ _ _ us hl => match us, hl with | [_], _ => rfl
theorem sc_is_below : FnScope ["one", "other"] ["one", "other"] (defScope s_is_below) := ⟨rfl, rfl, rfl, by decide +kernel, rfl, by decide +kernel, by decide +kernel⟩
theorem b_is_below (t : Tx K mg) : Binds K t.d_is_below ["one", "other"] [] := t.F_is_below.bindsN fun _ _ _ _ _ _ us hl => match us, hl with | [_, _], _ => rfl
theorem sc_are_equal : FnScope ["one", "other"] ["one", "other"] (defScope s_are_equal) := ⟨rfl, rfl, rfl, by decide +kernel, rfl, by decide +kernel, by decide +kernel⟩
theorem b_are_equal (t : Tx K mg) : Binds K t.d_are_equal ["one", "other"] [] := t.F_are_equal.bindsN fun _ _ _ _ _ _ us hl => match us, hl with | [_, _], _ => rfl
theorem sc_integer_below : FnScope ["number", "a", "b", "d", "root"] ["number"] (defScope s_integer_below) := ⟨rfl, rfl, rfl, by decide +kernel, rfl, by decide +kernel, by decide +kernel⟩
theorem b_integer_below (t : Tx K mg) : Binds K t.d_integer_below ["number"] [] := t.F_integer_below.bindsN fun _ _ _ _ _ _ us hl => match us, hl with | [_], _ => rfl
theorem sc_integer_above : FnScope ["number", "a", "b", "d"] ["number"] (defScope s_integer_above) := ⟨rfl, rfl, rfl, by decide +kernel, rfl, by decide +kernel, by decide +kernel⟩
theorem b_integer_above (t : Tx K mg) : Binds K t.d_integer_above ["number"] [] := t.F_integer_above.bindsN fun _ _ _ _ _ _ us hl => match us, hl with | [_], _ => rfl
theorem sc_is_whole : FnScope ["number", "a", "b", "d"] ["number"] (defScope s_is_whole) := ⟨rfl, rfl, rfl, by decide +kernel, rfl, by decide +kernel, by decide +kernel⟩
theorem b_is_whole (t : Tx K mg) : Binds K t.d_is_whole ["number"] [] := t.F_is_whole.bindsN fun _ _ _ _ _ _ us hl => match us, hl with | [_], _ => rfl
theorem sc_conjugate : FnScope ["number", "a", "b", "d"] ["number"] (defScope s_conjugate) := ⟨rfl, rfl, rfl, by decide +kernel, rfl, by decide +kernel, by decide +kernel⟩
theorem b_conjugate (t : Tx K mg) : Binds K t.d_conjugate ["number"] [] := t.F_conjugate.bindsN fun _ _ _ _ _ _ us hl => match us, hl with | [_], _ => rfl
theorem sc_power : FnScope ["n", "a", "b", "_"] ["n"] (defScope s_power) := ⟨rfl, rfl, rfl, by decide +kernel, rfl, by decide +kernel, by decide +kernel⟩
theorem b_power (t : Tx K mg) : Binds K t.d_power ["n"] [] := t.F_power.bindsN fun _ _ _ _ _ _ us hl => match us, hl with | [_], _ => rfl
theorem sc_number_text : FnScope ["number", "a", "b", "d", "mark", "text"] ["number"] (defScope s_number_text) := ⟨rfl, rfl, rfl, by decide +kernel, rfl, by decide +kernel, by decide +kernel⟩
theorem b_number_text (t : Tx K mg) : Binds K t.d_number_text ["number"] [] := t.F_number_text.bindsN fun _ _ _ _ _ _ us hl => match us, hl with | [_], _ => rfl
theorem sc_five_by_rule : FnScope ["factor", "first", "second", "five"] ["factor", "first", "second"] (defScope s_five_by_rule) := ⟨rfl, rfl, rfl, by decide +kernel, rfl, by decide +kernel, by decide +kernel⟩
theorem b_five_by_rule (t : Tx K mg) : Binds K t.d_five_by_rule ["factor", "first", "second"] [] := t.F_five_by_rule.bindsN fun _ _ _ _ _ _ us hl => match us, hl with | [_, _, _], _ => rfl
theorem sc_led_round : FnScope ["five", "many", "r"] ["five", "many"] (defScope s_led_round) := ⟨rfl, rfl, rfl, by decide +kernel, rfl, by decide +kernel, by decide +kernel⟩
theorem b_led_round (t : Tx K mg) : Binds K t.d_led_round ["five", "many"] [] := t.F_led_round.bindsN fun _ _ _ _ _ _ us hl => match us, hl with | [_, _], _ => rfl
theorem sc_with_part : FnScope ["five", "direction", "part"] ["five", "direction", "part"] (defScope s_with_part) := ⟨rfl, rfl, rfl, by decide +kernel, rfl, by decide +kernel, by decide +kernel⟩
theorem b_with_part (t : Tx K mg) : Binds K t.d_with_part ["five", "direction", "part"] [] := t.F_with_part.bindsN fun _ _ _ _ _ _ us hl => match us, hl with | [_, _, _], _ => rfl
theorem sc_stepped : FnScope ["row", "direction", "by"] ["row", "direction", "by"] (defScope s_stepped) := ⟨rfl, rfl, rfl, by decide +kernel, rfl, by decide +kernel, by decide +kernel⟩
theorem b_stepped (t : Tx K mg) : Binds K t.d_stepped ["row", "direction", "by"] [] := t.F_stepped.bindsN fun _ _ _ _ _ _ us hl => match us, hl with | [_, _, _], _ => rfl
theorem sc_keys_by : FnScope ["one", "other"] ["one", "other"] (defScope s_keys_by) := ⟨rfl, rfl, rfl, by decide +kernel, rfl, by decide +kernel, by decide +kernel⟩
theorem b_keys_by (t : Tx K mg) : Binds K t.d_keys_by ["one", "other"] [] := t.F_keys_by.bindsN fun _ _ _ _ _ _ us hl => match us, hl with | [_, _], _ => rfl
theorem sc__whole_directions : FnScope ["all_keys", "r"] ["all_keys"] (defScope s__whole_directions) := ⟨rfl, rfl, rfl, by decide +kernel, rfl, by decide +kernel, by decide +kernel⟩
theorem b__whole_directions (t : Tx K mg) : Binds K t.d__whole_directions ["all_keys"] [] := t.F__whole_directions.bindsN fun _ _ _ _ _ _ us hl => match us, hl with | [_], _ => rfl
theorem sc__sides_of : FnScope ["all_keys", "whole", "found", "q", "turned_side", "part"] ["all_keys"] (defScope s__sides_of) := ⟨rfl, rfl, rfl, by decide +kernel, rfl, by decide +kernel, by decide +kernel⟩
theorem b__sides_of (t : Tx K mg) : Binds K t.d__sides_of ["all_keys"] [] := t.F__sides_of.bindsN fun _ _ _ _ _ _ us hl => match us, hl with | [_], _ => rfl
theorem sc_Floor_init : FnScope ["self", "one", "other", "side", "all_keys"] ["self", "one", "other", "side"] (defScope s_Floor_init) := ⟨rfl, rfl, rfl, by decide +kernel, rfl, by decide +kernel, by decide +kernel⟩
theorem bd_Floor_init_3 (t : Tx K mg) : ∃ ds, Vals ([.ref t.v_Floor_init] : List V) ds ∧ Binds K t.d_Floor_init ["self", "one", "other", "side"] ds := FunD.binds1 t.F_Floor_init 3 0 (fun z => by cases z) rfl fun _ _ _ _ _ _ _ us its hu hi => match us, hu, its, hi with | [_, _, _], _, [_], _ => ⟨_, rfl, rfl⟩
theorem bd_Floor_init_4 (t : Tx K mg) : ∃ ds, Vals ([] : List V) ds ∧ Binds K t.d_Floor_init ["self", "one", "other", "side"] ds := FunD.binds1 t.F_Floor_init 4 1 (fun z => by cases z) rfl fun _ _ _ _ _ _ _ us its hu hi => match us, hu, its, hi with | [_, _, _, _], _, [_], _ => ⟨_, rfl, rfl⟩
theorem b_Floor_init (t : Tx K mg) : Binds K t.d_Floor_init ["self", "one", "other", "side"] [] := bD_full (bd_Floor_init_4 t)
theorem sc_Floor_eq : FnScope ["self", "other"] ["self", "other"] (defScope s_Floor_eq) := ⟨rfl, rfl, rfl, by decide +kernel, rfl, by decide +kernel, by decide +kernel⟩
theorem b_Floor_eq (t : Tx K mg) : Binds K t.d_Floor_eq ["self", "other"] [] := t.F_Floor_eq.bindsN fun _ _ _ _ _ _ us hl => match us, hl with | [_, _], _ => rfl
theorem sc__law_deck : FnScope ["_law_script", "_law_mixed", "_law_cell"] ["_law_script"] (defScope s__law_deck) := ⟨rfl, rfl, rfl, by decide +kernel, rfl, by decide +kernel, by decide +kernel⟩
theorem b__law_deck (t : Tx K mg) : Binds K t.d__law_deck ["_law_script"] [] := t.F__law_deck.bindsN fun _ _ _ _ _ _ us hl => match us, hl with | [_], _ => rfl
theorem sc__law_draw : FnScope ["_law_deck_here", "_law_many", "_law_figure", "_law_cell"] ["_law_deck_here", "_law_many"] (defScope s__law_draw) := ⟨rfl, rfl, rfl, by decide +kernel, rfl, by decide +kernel, by decide +kernel⟩
theorem b__law_draw (t : Tx K mg) : Binds K t.d__law_draw ["_law_deck_here", "_law_many"] [] := t.F__law_draw.bindsN fun _ _ _ _ _ _ us hl => match us, hl with | [_, _], _ => rfl
theorem sc__law_pick : FnScope ["_law_deck_here", "_law_some"] ["_law_deck_here", "_law_some"] (defScope s__law_pick) := ⟨rfl, rfl, rfl, by decide +kernel, rfl, by decide +kernel, by decide +kernel⟩
theorem b__law_pick (t : Tx K mg) : Binds K t.d__law_pick ["_law_deck_here", "_law_some"] [] := t.F__law_pick.bindsN fun _ _ _ _ _ _ us hl => match us, hl with | [_, _], _ => rfl
theorem sc__law_integer : FnScope ["_law_deck_here", "_law_pieces", "_law_way", "_law_facing", "_law_found", "_law_piece"] ["_law_deck_here", "_law_pieces"] (defScope s__law_integer) := ⟨rfl, rfl, rfl, by decide +kernel, rfl, by decide +kernel, by decide +kernel⟩
theorem b__law_integer (t : Tx K mg) : Binds K t.d__law_integer ["_law_deck_here", "_law_pieces"] [] := t.F__law_integer.bindsN fun _ _ _ _ _ _ us hl => match us, hl with | [_, _], _ => rfl
theorem sc__law_same : FnScope ["_law_told", "_law_due"] ["_law_told", "_law_due"] (defScope s__law_same) := ⟨rfl, rfl, rfl, by decide +kernel, rfl, by decide +kernel, by decide +kernel⟩
theorem b__law_same (t : Tx K mg) : Binds K t.d__law_same ["_law_told", "_law_due"] [] := t.F__law_same.bindsN fun _ _ _ _ _ _ us hl => match us, hl with | [_, _], _ => rfl
theorem sc__law_golden : FnScope ["_law_deck_here", "_law_way"] ["_law_deck_here"] (defScope s__law_golden) := ⟨rfl, rfl, rfl, by decide +kernel, rfl, by decide +kernel, by decide +kernel⟩
theorem b__law_golden (t : Tx K mg) : Binds K t.d__law_golden ["_law_deck_here"] [] := t.F__law_golden.bindsN fun _ _ _ _ _ _ us hl => match us, hl with | [_], _ => rfl
theorem sc__law_odd : FnScope ["_law_deck_here", "_law_it", "_law_some"] ["_law_deck_here", "_law_it"] (defScope s__law_odd) := ⟨rfl, rfl, rfl, by decide +kernel, rfl, by decide +kernel, by decide +kernel⟩
theorem b__law_odd (t : Tx K mg) : Binds K t.d__law_odd ["_law_deck_here", "_law_it"] [] := t.F__law_odd.bindsN fun _ _ _ _ _ _ us hl => match us, hl with | [_, _], _ => rfl
theorem sc__law_bent : FnScope ["_law_deck_here", "_law_it", "_law_at"] ["_law_deck_here", "_law_it"] (defScope s__law_bent) := ⟨rfl, rfl, rfl, by decide +kernel, rfl, by decide +kernel, by decide +kernel⟩
theorem b__law_bent (t : Tx K mg) : Binds K t.d__law_bent ["_law_deck_here", "_law_it"] [] := t.F__law_bent.bindsN fun _ _ _ _ _ _ us hl => match us, hl with | [_, _], _ => rfl
theorem sc__law_is_golden : FnScope ["_law_thing", "_law_it"] ["_law_thing"] (defScope s__law_is_golden) := ⟨rfl, rfl, rfl, by decide +kernel, rfl, by decide +kernel, by decide +kernel⟩
theorem b__law_is_golden (t : Tx K mg) : Binds K t.d__law_is_golden ["_law_thing"] [] := t.F__law_is_golden.bindsN fun _ _ _ _ _ _ us hl => match us, hl with | [_], _ => rfl
theorem sc__law_value : FnScope ["_law_deck_here", "_law_way", "_law_found"] ["_law_deck_here"] (defScope s__law_value) := ⟨rfl, rfl, rfl, by decide +kernel, rfl, by decide +kernel, by decide +kernel⟩
theorem b__law_value (t : Tx K mg) : Binds K t.d__law_value ["_law_deck_here"] [] := t.F__law_value.bindsN fun _ _ _ _ _ _ us hl => match us, hl with | [_], _ => rfl
theorem sc__law_refused : FnScope ["_law_call", "e", "_law_is_other"] ["_law_call"] (defScope s__law_refused) := ⟨rfl, rfl, rfl, by decide +kernel, rfl, by decide +kernel, by decide +kernel⟩
theorem b__law_refused (t : Tx K mg) : Binds K t.d__law_refused ["_law_call"] [] := t.F__law_refused.bindsN fun _ _ _ _ _ _ us hl => match us, hl with | [_], _ => rfl
theorem sc__law_two_right : FnScope ["_law_p", "_law_q", "_law_due", "_law_last", "_law_told", "_law_far"] ["_law_p", "_law_q"] (defScope s__law_two_right) := ⟨rfl, rfl, rfl, by decide +kernel, rfl, by decide +kernel, by decide +kernel⟩
theorem b__law_two_right (t : Tx K mg) : Binds K t.d__law_two_right ["_law_p", "_law_q"] [] := t.F__law_two_right.bindsN fun _ _ _ _ _ _ us hl => match us, hl with | [_, _], _ => rfl
theorem sc__law_one_right : FnScope ["_law_p", "_law_due", "_law_told"] ["_law_p"] (defScope s__law_one_right) := ⟨rfl, rfl, rfl, by decide +kernel, rfl, by decide +kernel, by decide +kernel⟩
theorem b__law_one_right (t : Tx K mg) : Binds K t.d__law_one_right ["_law_p"] [] := t.F__law_one_right.bindsN fun _ _ _ _ _ _ us hl => match us, hl with | [_], _ => rfl
theorem sc__law_is_floor_refused : FnScope ["_law_plane", "_law_told", "_law_it"] ["_law_plane"] (defScope s__law_is_floor_refused) := ⟨rfl, rfl, rfl, by decide +kernel, rfl, by decide +kernel, by decide +kernel⟩
theorem b__law_is_floor_refused (t : Tx K mg) : Binds K t.d__law_is_floor_refused ["_law_plane"] [] := t.F__law_is_floor_refused.bindsN fun _ _ _ _ _ _ us hl => match us, hl with | [_], _ => rfl
theorem sc__law_is_great_right : FnScope ["_law_deck_here", "_law_number", "_law_great", "_law_turn", "_law_bad", "_law_near", "_law_far"] ["_law_deck_here"] (defScope s__law_is_great_right) := ⟨rfl, rfl, rfl, by decide +kernel, rfl, by decide +kernel, by decide +kernel⟩
theorem b__law_is_great_right (t : Tx K mg) : Binds K t.d__law_is_great_right ["_law_deck_here"] [] := t.F__law_is_great_right.bindsN fun _ _ _ _ _ _ us hl => match us, hl with | [_], _ => rfl
theorem sc_law : FnScope ["_law_script", "_law_deck_here", "_law_turn", "_law_p", "_law_q", "_law_text", "_law_great"] ["_law_script"] (defScope s_law) := ⟨rfl, rfl, rfl, by decide +kernel, rfl, by decide +kernel, by decide +kernel⟩
theorem b_law (t : Tx K mg) : Binds K t.d_law ["_law_script"] [] := t.F_law.bindsN fun _ _ _ _ _ _ us hl => match us, hl with | [_], _ => rfl
def T_is_plain_integer : TDS := (dRet (dAnd (dUn (gIs .int) (dVar 0)) (dNot (dUn (gIs .bool) (dVar 0)))))
def tf_is_plain_integer : TF := fun _ ds Q => tfOf 1 T_is_plain_integer (fun _ => False) ds Q
theorem ok_is_plain_integer (t : Tx K mg) : FnG P w K mg base CX0 1 t.a_is_plain_integer t.d_is_plain_integer ["thing"] (spD K 1 tf_is_plain_integer) := by
  have sc := sc_is_plain_integer
  exact fng_data (N := ["thing"]) (T := T_is_plain_integer) t.F_is_plain_integer sc fun cdv A outer s H E F hK hF room =>
    (ds_one (ds_ret (d_and (d_isi (T := .int) hK rfl t.n_isinstance rfl t.n_int (by decide +kernel) (d_var (pv 0))) (d_one (d_not (d_isi (T := .bool) hK rfl t.n_isinstance rfl t.n_bool (by decide +kernel) (d_var (pv 0))))))))
def T_is_tuple_of : TDS := (dRet (dAnd (dUn (gIs .tuple) (dVar 0)) (dBin gEq (dCB gLen (dCons (dVar 0) dNil)) (dVar 1))))
def tf_is_tuple_of : TF := fun _ ds Q => tfOf 2 T_is_tuple_of (fun _ => False) ds Q
theorem ok_is_tuple_of (t : Tx K mg) : FnG P w K mg base CX0 1 t.a_is_tuple_of t.d_is_tuple_of ["thing", "many"] (spD K 2 tf_is_tuple_of) := by
  have sc := sc_is_tuple_of
  exact fng_data (N := ["thing", "many"]) (T := T_is_tuple_of) t.F_is_tuple_of sc fun cdv A outer s H E F hK hF room =>
    (ds_one (ds_ret (d_and (d_isi (T := .tuple) hK rfl t.n_isinstance rfl t.n_tuple (by decide +kernel) (d_var (pv 0))) (d_one (d_eq hK room.r.units (d_callB (hK ▸ cd_len) call_len_seq rfl t.n_len (by decide +kernel) (da_cons (d_var (pv 0)) da_nil)) (d_var (pv 1)))))))
def T_are_plain_integers : TDS := (dRet (dAnd (dCall 2 tf_is_tuple_of (dCons (dVar 0) (dCons (dVar 1) dNil))) (dCB gAll (dCons (dLcV 0 2 dYes (dCall 1 tf_is_plain_integer (dCons (dVar 2) dNil))) dNil))))
def tf_are_plain_integers : TF := fun _ ds Q => tfOf 3 T_are_plain_integers (fun _ => False) ds Q
theorem ok_are_plain_integers (t : Tx K mg) : FnG P w K mg base CX0 2 t.a_are_plain_integers t.d_are_plain_integers ["thing", "many"] (spD K 2 tf_are_plain_integers) := by
  have sc := sc_are_plain_integers
  exact fng_data (N := ["thing", "many", "part"]) (T := T_are_plain_integers) t.F_are_plain_integers sc fun cdv A outer s H E F hK hF room =>
    (ds_one (ds_ret (d_and (d_call (ok_is_tuple_of t) hK (room.mono (by decide)) rfl t.m_is_tuple_of t.F_is_tuple_of.kp (b_is_tuple_of t) (da_cons (d_var (pv 0)) (da_cons (d_var (pv 1)) da_nil))) (d_one (d_callB (hK ▸ cd_all) (cr_all rfl) rfl t.n_all (by decide +kernel) (da_cons (d_lcV hK rfl sc.nd (pv 0) (blkOk_by (own := [("part", 2)]) (N := ["thing", "many", "part"]) (sc := defScope s_are_plain_integers) (by decide +kernel)) rfl (fun _ _ _ _ _ => pg_name (i := 2) sc.nd rfl (Or.inl rfl)) (fun _ _ _ _ _ => dts_nil) (fun _ _ _ _ _ => (d_call (ok_is_plain_integer t) hK (room.mono (by decide)) rfl t.m_is_plain_integer t.F_is_plain_integer.kp (b_is_plain_integer t) (da_cons (d_var (pv 2)) da_nil)))) da_nil))))))
def T__block : TDS := (dRet (dBin gPowB (dBin gPowB (dC (.int 10)) (dC (.int 64))) (dC (.int 8))))
def tf__block : TF := fun _ ds Q => tfOf 0 T__block (fun _ => False) ds Q
theorem ok__block (t : Tx K mg) : FnG P w K mg base CX0 1 t.a__block t.d__block [] (spD K 0 tf__block) := by
  have sc := sc__block
  exact fng_data (N := []) (T := T__block) t.F__block sc fun cdv A outer s H E F hK hF room =>
    (ds_one (ds_ret (d_powB (d_powB d_int d_int) d_int)))
def T_integer_text : TDS := (dSeq (dAsg (dCall 0 tf__block dNil) (dgName 1))
    (dSeq (dAsg (dCB gAbs (dCons (dVar 0) dNil)) (dgName 2))
    (dSeq (dOwn (lLst dNil) 3)
    (dSeq (dWhile (dTest (dBin gGe (dVar 2) (dVar 1)))
    (dSeq (dAsg (dCB gDivmod (dCons (dVar 2) (dCons (dVar 1) dNil))) (dgTup 2 (dgCons (dgName 2) (dgCons (dgName 4) dgNil))))
    (dApp 3 (dM1 gZfill (dCB gStr (dCons (dVar 4) dNil)) (dC (.int 512))))))
    (dSeq (dApp 3 (dCB gStr (dCons (dVar 2) dNil)))
    (dSeq (dIfS (dTest (dBin gLt (dVar 0) (dC (.int 0))))
    (dApp 3 (dC (.str "-")))
    dNext)
    (dFreeze 3 (dRet (dM1 gJoin (dC (.str "")) (dUn gRevL (dVar 3)))))))))))
def tf_integer_text : TF := fun _ ds Q => tfOf 5 T_integer_text (fun _ => False) ds Q
theorem ok_integer_text (t : Tx K mg) : FnG P w K mg base CX0 2 t.a_integer_text t.d_integer_text ["number"] (spD K 1 tf_integer_text) := by
  have sc := sc_integer_text
  exact fng_data (N := ["number", "block", "rest", "parts", "low"]) (T := T_integer_text) t.F_integer_text sc fun cdv A outer s H E F hK hF room =>
    (ds_cons (ds_set (i := 1) sc.nd rfl (by first | exact Or.inl rfl | exact Or.inr rfl) (d_call0 (ok__block t) hK (room.mono (by decide)) rfl t.m__block t.F__block.kp (b__block t)))
    (ds_cons (ds_set (i := 2) sc.nd rfl (by first | exact Or.inl rfl | exact Or.inr rfl) (d_callB cd_abs call_abs rfl t.n_abs (by decide +kernel) (da_cons (d_var (pv 0)) da_nil)))
    (ds_cons (ds_own (i := 3) sc.nd rfl (by first | exact Or.inl rfl | exact Or.inr rfl) (l_lst da_nil))
    (ds_cons (ds_while PassesOwn.never (dt_ge (d_var (pv 2)) (d_var (pv 1)))
    (ds_cons (ds_asg (d_callB cd_divmod call_divmodW rfl t.n_divmod (by decide +kernel) (da_cons (d_var (pv 2)) (da_cons (d_var (pv 1)) da_nil))) (dg_tup hK rfl (dgs_cons (dg_name (pg_name (i := 2) sc.nd rfl (by first | exact Or.inl rfl | exact Or.inr rfl))) (dgs_cons (dg_name (pg_name (i := 4) sc.nd rfl (by first | exact Or.inl rfl | exact Or.inr rfl))) dgs_nil))))
    (ds_one (ds_app hK (pv 3) (d_zfill (d_callTy cd_str call_str_int rfl t.n_str (by decide +kernel) (da_cons (d_var (pv 4)) da_nil)) (d_gint rfl t.k_BLOCK_DIGITS))))))
    (ds_cons (ds_app hK (pv 3) (d_callTy cd_str call_str_int rfl t.n_str (by decide +kernel) (da_cons (d_var (pv 2)) da_nil)))
    (ds_cons (ds_if (dt_lt (d_var (pv 0)) d_int)
    (ds_one (ds_app hK (pv 3) d_str))
    ds_nil)
    (dss_freeze (i := 3) (ds_one (ds_ret (d_join hK d_str (d_revL hK (d_var (pv 3)))))))))))))
def T_is_golden : TDS := (dSeq (dIfS (dtOr (dtNot (dTest (dUn (gIs .tuple) (dVar 0)))) (dTest (dBin gNe (dCB gLen (dCons (dVar 0) dNil)) (dC (.int 3)))))
    (dRet (dC (.bl false)))
    dNext)
    (dSeq (dAsg (dVar 0) (dgTup 3 (dgCons (dgName 1) (dgCons (dgName 2) (dgCons (dgName 3) dgNil)))))
    (dRet (dAnd (dCall 1 tf_is_plain_integer (dCons (dVar 1) dNil)) (dAnd (dCall 1 tf_is_plain_integer (dCons (dVar 2) dNil)) (dAnd (dCall 1 tf_is_plain_integer (dCons (dVar 3) dNil)) (dBin gGe (dVar 3) (dC (.int 1)))))))))
def tf_is_golden : TF := fun _ ds Q => tfOf 4 T_is_golden (fun _ => False) ds Q
theorem ok_is_golden (t : Tx K mg) : FnG P w K mg base CX0 2 t.a_is_golden t.d_is_golden ["thing"] (spD K 1 tf_is_golden) := by
  have sc := sc_is_golden
  exact fng_data (N := ["thing", "a", "b", "d"]) (T := T_is_golden) t.F_is_golden sc fun cdv A outer s H E F hK hF room =>
    (ds_cons (ds_if (PW.pt (dw_or (dt_not (dt_val (d_isi (T := .tuple) hK rfl t.n_isinstance rfl t.n_tuple (by decide +kernel) (d_var (pv 0))))) (dw_or1 (dt_ne hK room.r.units (d_callB (hK ▸ cd_len) call_len_seq rfl t.n_len (by decide +kernel) (da_cons (d_var (pv 0)) da_nil)) d_int))))
    (ds_one (ds_ret d_bl))
    ds_nil)
    (ds_cons (ds_asg (d_var (pv 0)) (dg_tup hK rfl (dgs_cons (dg_name (pg_name (i := 1) sc.nd rfl (by first | exact Or.inl rfl | exact Or.inr rfl))) (dgs_cons (dg_name (pg_name (i := 2) sc.nd rfl (by first | exact Or.inl rfl | exact Or.inr rfl))) (dgs_cons (dg_name (pg_name (i := 3) sc.nd rfl (by first | exact Or.inl rfl | exact Or.inr rfl))) dgs_nil)))))
    (ds_one (ds_ret (d_and (d_call (ok_is_plain_integer t) hK (room.mono (by decide)) rfl t.m_is_plain_integer t.F_is_plain_integer.kp (b_is_plain_integer t) (da_cons (d_var (pv 1)) da_nil)) (d_and (d_call (ok_is_plain_integer t) hK (room.mono (by decide)) rfl t.m_is_plain_integer t.F_is_plain_integer.kp (b_is_plain_integer t) (da_cons (d_var (pv 2)) da_nil)) (d_and (d_call (ok_is_plain_integer t) hK (room.mono (by decide)) rfl t.m_is_plain_integer t.F_is_plain_integer.kp (b_is_plain_integer t) (da_cons (d_var (pv 3)) da_nil)) (d_one (d_ge (d_var (pv 3)) d_int)))))))))
def T_need_golden : TDS := (dIfS (dtNot (dTest (dCall 1 tf_is_golden (dCons (dVar 0) dNil))))
    (dRaise1 "BadNumber" "thing" (dVar 0))
    dNext)
def tf_need_golden : TF := fun ξ ds Q => tfOf 1 T_need_golden ξ ds Q
theorem ok_need_golden (t : Tx K mg) : FnG P w K mg base (CX P w) 3 t.a_need_golden t.d_need_golden ["thing"] (spD K 1 tf_need_golden) := by
  have sc := sc_need_golden
  exact fng_dataX (N := ["thing"]) (T := T_need_golden) t.F_need_golden sc fun cdv A outer s H E F hK wo' room => have tk' : Takes (cxOf (CX P w) P w K mg base ["thing"] "need_golden" (defScope s_need_golden) t.a_need_golden cdv A outer s H E) (fun c od _ H' => E c od H') := takes_of rfl rfl rfl rfl
    (ds_one (ds_if (dt_not (dt_val (d_call (ok_is_golden t) hK (room.mono (by decide)) rfl t.m_is_golden t.F_is_golden.kp (b_is_golden t) (da_cons (d_var (pv 0)) da_nil))))
    (ds_one (ds_raise1 rfl tk' wo' hK t.X_BadNumber t.G_BadNumber (bi_BadNumber t) it_BadNumber room.r (d_var (pv 0)) rfl))
    ds_nil))
def T__lowest : TDS := (dSeq (dAsg (dCB gGcd3 (dCons (dVar 0) (dCons (dVar 1) (dCons (dVar 2) dNil)))) (dgName 3))
    (dSeq (dIfS (dTest (dBin gLt (dVar 2) (dC (.int 0))))
    (dAsg (dUn gNeg (dVar 3)) (dgName 3))
    dNext)
    (dRet (dTup (dCons (dBin gDivB (dVar 0) (dVar 3)) (dCons (dBin gDivB (dVar 1) (dVar 3)) (dCons (dBin gDivB (dVar 2) (dVar 3)) dNil)))))))
def tf__lowest : TF := fun _ ds Q => tfOf 4 T__lowest (fun _ => False) ds Q
theorem ok__lowest (t : Tx K mg) : FnG P w K mg base CX0 1 t.a__lowest t.d__lowest ["a", "b", "d"] (spD K 3 tf__lowest) := by
  have sc := sc__lowest
  exact fng_data (N := ["a", "b", "d", "common"]) (T := T__lowest) t.F__lowest sc fun cdv A outer s H E F hK hF room =>
    (ds_cons (ds_set (i := 3) sc.nd rfl (by first | exact Or.inl rfl | exact Or.inr rfl) (d_callBf cd_gcd3 cr_gcd3 rfl t.i_gcd (da_cons (d_var (pv 0)) (da_cons (d_var (pv 1)) (da_cons (d_var (pv 2)) da_nil)))))
    (ds_cons (ds_if (dt_lt (d_var (pv 2)) d_int)
    (ds_one (ds_set (i := 3) sc.nd rfl (by first | exact Or.inl rfl | exact Or.inr rfl) (d_neg (d_var (pv 3)))))
    ds_nil)
    (ds_one (ds_ret (d_tup (da_cons (d_divB (d_var (pv 0)) (d_var (pv 3))) (da_cons (d_divB (d_var (pv 1)) (d_var (pv 3))) (da_cons (d_divB (d_var (pv 2)) (d_var (pv 3))) da_nil))))))))
def T_reduced : TDS := (dSeq (dDrop (dCallX 1 tf_need_golden (dCons (dVar 0) dNil)))
    (dSeq (dAsg (dVar 0) (dgTup 3 (dgCons (dgName 1) (dgCons (dgName 2) (dgCons (dgName 3) dgNil)))))
    (dRet (dCall 3 tf__lowest (dCons (dVar 1) (dCons (dVar 2) (dCons (dVar 3) dNil)))))))
def tf_reduced : TF := fun ξ ds Q => tfOf 4 T_reduced ξ ds Q
theorem ok_reduced (t : Tx K mg) : FnG P w K mg base (CX P w) 4 t.a_reduced t.d_reduced ["number"] (spD K 1 tf_reduced) := by
  have sc := sc_reduced
  exact fng_dataX (N := ["number", "a", "b", "d"]) (T := T_reduced) t.F_reduced sc fun cdv A outer s H E F hK wo' room => have tk' : Takes (cxOf (CX P w) P w K mg base ["number", "a", "b", "d"] "reduced" (defScope s_reduced) t.a_reduced cdv A outer s H E) (fun c od _ H' => E c od H') := takes_of rfl rfl rfl rfl
    (ds_cons (ds_expr (d_callX (ok_need_golden t) tk' wo' hK (room.mono (by decide)) rfl t.m_need_golden t.F_need_golden.kp (b_need_golden t) (da_cons (d_var (pv 0)) da_nil)))
    (ds_cons (ds_asg (d_var (pv 0)) (dg_tup hK rfl (dgs_cons (dg_name (pg_name (i := 1) sc.nd rfl (by first | exact Or.inl rfl | exact Or.inr rfl))) (dgs_cons (dg_name (pg_name (i := 2) sc.nd rfl (by first | exact Or.inl rfl | exact Or.inr rfl))) (dgs_cons (dg_name (pg_name (i := 3) sc.nd rfl (by first | exact Or.inl rfl | exact Or.inr rfl))) dgs_nil)))))
    (ds_one (ds_ret (d_call (ok__lowest t) hK (room.mono (by decide)) rfl t.m__lowest t.F__lowest.kp (b__lowest t) (da_cons (d_var (pv 1)) (da_cons (d_var (pv 2)) (da_cons (d_var (pv 3)) da_nil))))))))
def T_plus : TDS := (dSeq (dDrop (dCallX 1 tf_need_golden (dCons (dVar 0) dNil)))
    (dSeq (dDrop (dCallX 1 tf_need_golden (dCons (dVar 1) dNil)))
    (dSeq (dAsg (dVar 0) (dgTup 3 (dgCons (dgName 2) (dgCons (dgName 3) (dgCons (dgName 4) dgNil)))))
    (dSeq (dAsg (dVar 1) (dgTup 3 (dgCons (dgName 5) (dgCons (dgName 6) (dgCons (dgName 7) dgNil)))))
    (dRet (dCall 3 tf__lowest (dCons (dBin gAddA (dBin gMulA (dVar 2) (dVar 7)) (dBin gMulA (dVar 5) (dVar 4))) (dCons (dBin gAddA (dBin gMulA (dVar 3) (dVar 7)) (dBin gMulA (dVar 6) (dVar 4))) (dCons (dBin gMulA (dVar 4) (dVar 7)) dNil)))))))))
def tf_plus : TF := fun ξ ds Q => tfOf 8 T_plus ξ ds Q
theorem ok_plus (t : Tx K mg) : FnG P w K mg base (CX P w) 4 t.a_plus t.d_plus ["one", "other"] (spD K 2 tf_plus) := by
  have sc := sc_plus
  exact fng_dataX (N := ["one", "other", "a", "b", "d", "c", "e", "f"]) (T := T_plus) t.F_plus sc fun cdv A outer s H E F hK wo' room => have tk' : Takes (cxOf (CX P w) P w K mg base ["one", "other", "a", "b", "d", "c", "e", "f"] "plus" (defScope s_plus) t.a_plus cdv A outer s H E) (fun c od _ H' => E c od H') := takes_of rfl rfl rfl rfl
    (ds_cons (ds_expr (d_callX (ok_need_golden t) tk' wo' hK (room.mono (by decide)) rfl t.m_need_golden t.F_need_golden.kp (b_need_golden t) (da_cons (d_var (pv 0)) da_nil)))
    (ds_cons (ds_expr (d_callX (ok_need_golden t) tk' wo' hK (room.mono (by decide)) rfl t.m_need_golden t.F_need_golden.kp (b_need_golden t) (da_cons (d_var (pv 1)) da_nil)))
    (ds_cons (ds_asg (d_var (pv 0)) (dg_tup hK rfl (dgs_cons (dg_name (pg_name (i := 2) sc.nd rfl (by first | exact Or.inl rfl | exact Or.inr rfl))) (dgs_cons (dg_name (pg_name (i := 3) sc.nd rfl (by first | exact Or.inl rfl | exact Or.inr rfl))) (dgs_cons (dg_name (pg_name (i := 4) sc.nd rfl (by first | exact Or.inl rfl | exact Or.inr rfl))) dgs_nil)))))
    (ds_cons (ds_asg (d_var (pv 1)) (dg_tup hK rfl (dgs_cons (dg_name (pg_name (i := 5) sc.nd rfl (by first | exact Or.inl rfl | exact Or.inr rfl))) (dgs_cons (dg_name (pg_name (i := 6) sc.nd rfl (by first | exact Or.inl rfl | exact Or.inr rfl))) (dgs_cons (dg_name (pg_name (i := 7) sc.nd rfl (by first | exact Or.inl rfl | exact Or.inr rfl))) dgs_nil)))))
    (ds_one (ds_ret (d_call (ok__lowest t) hK (room.mono (by decide)) rfl t.m__lowest t.F__lowest.kp (b__lowest t) (da_cons (d_addA hK (d_mulA (d_var (pv 2)) (d_var (pv 7))) (d_mulA (d_var (pv 5)) (d_var (pv 4)))) (da_cons (d_addA hK (d_mulA (d_var (pv 3)) (d_var (pv 7))) (d_mulA (d_var (pv 6)) (d_var (pv 4)))) (da_cons (d_mulA (d_var (pv 4)) (d_var (pv 7))) da_nil))))))))))
def T_minus : TDS := (dSeq (dDrop (dCallX 1 tf_need_golden (dCons (dVar 0) dNil)))
    (dSeq (dDrop (dCallX 1 tf_need_golden (dCons (dVar 1) dNil)))
    (dSeq (dAsg (dVar 0) (dgTup 3 (dgCons (dgName 2) (dgCons (dgName 3) (dgCons (dgName 4) dgNil)))))
    (dSeq (dAsg (dVar 1) (dgTup 3 (dgCons (dgName 5) (dgCons (dgName 6) (dgCons (dgName 7) dgNil)))))
    (dRet (dCall 3 tf__lowest (dCons (dBin gSub (dBin gMulA (dVar 2) (dVar 7)) (dBin gMulA (dVar 5) (dVar 4))) (dCons (dBin gSub (dBin gMulA (dVar 3) (dVar 7)) (dBin gMulA (dVar 6) (dVar 4))) (dCons (dBin gMulA (dVar 4) (dVar 7)) dNil)))))))))
def tf_minus : TF := fun ξ ds Q => tfOf 8 T_minus ξ ds Q
theorem ok_minus (t : Tx K mg) : FnG P w K mg base (CX P w) 4 t.a_minus t.d_minus ["one", "other"] (spD K 2 tf_minus) := by
  have sc := sc_minus
  exact fng_dataX (N := ["one", "other", "a", "b", "d", "c", "e", "f"]) (T := T_minus) t.F_minus sc fun cdv A outer s H E F hK wo' room => have tk' : Takes (cxOf (CX P w) P w K mg base ["one", "other", "a", "b", "d", "c", "e", "f"] "minus" (defScope s_minus) t.a_minus cdv A outer s H E) (fun c od _ H' => E c od H') := takes_of rfl rfl rfl rfl
    (ds_cons (ds_expr (d_callX (ok_need_golden t) tk' wo' hK (room.mono (by decide)) rfl t.m_need_golden t.F_need_golden.kp (b_need_golden t) (da_cons (d_var (pv 0)) da_nil)))
    (ds_cons (ds_expr (d_callX (ok_need_golden t) tk' wo' hK (room.mono (by decide)) rfl t.m_need_golden t.F_need_golden.kp (b_need_golden t) (da_cons (d_var (pv 1)) da_nil)))
    (ds_cons (ds_asg (d_var (pv 0)) (dg_tup hK rfl (dgs_cons (dg_name (pg_name (i := 2) sc.nd rfl (by first | exact Or.inl rfl | exact Or.inr rfl))) (dgs_cons (dg_name (pg_name (i := 3) sc.nd rfl (by first | exact Or.inl rfl | exact Or.inr rfl))) (dgs_cons (dg_name (pg_name (i := 4) sc.nd rfl (by first | exact Or.inl rfl | exact Or.inr rfl))) dgs_nil)))))
    (ds_cons (ds_asg (d_var (pv 1)) (dg_tup hK rfl (dgs_cons (dg_name (pg_name (i := 5) sc.nd rfl (by first | exact Or.inl rfl | exact Or.inr rfl))) (dgs_cons (dg_name (pg_name (i := 6) sc.nd rfl (by first | exact Or.inl rfl | exact Or.inr rfl))) (dgs_cons (dg_name (pg_name (i := 7) sc.nd rfl (by first | exact Or.inl rfl | exact Or.inr rfl))) dgs_nil)))))
    (ds_one (ds_ret (d_call (ok__lowest t) hK (room.mono (by decide)) rfl t.m__lowest t.F__lowest.kp (b__lowest t) (da_cons (d_sub (d_mulA (d_var (pv 2)) (d_var (pv 7))) (d_mulA (d_var (pv 5)) (d_var (pv 4)))) (da_cons (d_sub (d_mulA (d_var (pv 3)) (d_var (pv 7))) (d_mulA (d_var (pv 6)) (d_var (pv 4)))) (da_cons (d_mulA (d_var (pv 4)) (d_var (pv 7))) da_nil))))))))))
def T_times : TDS := (dSeq (dDrop (dCallX 1 tf_need_golden (dCons (dVar 0) dNil)))
    (dSeq (dDrop (dCallX 1 tf_need_golden (dCons (dVar 1) dNil)))
    (dSeq (dAsg (dVar 0) (dgTup 3 (dgCons (dgName 2) (dgCons (dgName 3) (dgCons (dgName 4) dgNil)))))
    (dSeq (dAsg (dVar 1) (dgTup 3 (dgCons (dgName 5) (dgCons (dgName 6) (dgCons (dgName 7) dgNil)))))
    (dRet (dCall 3 tf__lowest (dCons (dBin gAddA (dBin gMulA (dVar 2) (dVar 5)) (dBin gMulA (dVar 3) (dVar 6))) (dCons (dBin gAddA (dBin gAddA (dBin gMulA (dVar 2) (dVar 6)) (dBin gMulA (dVar 3) (dVar 5))) (dBin gMulA (dVar 3) (dVar 6))) (dCons (dBin gMulA (dVar 4) (dVar 7)) dNil)))))))))
def tf_times : TF := fun ξ ds Q => tfOf 8 T_times ξ ds Q
theorem ok_times (t : Tx K mg) : FnG P w K mg base (CX P w) 4 t.a_times t.d_times ["one", "other"] (spD K 2 tf_times) := by
  have sc := sc_times
  exact fng_dataX (N := ["one", "other", "a", "b", "d", "c", "e", "f"]) (T := T_times) t.F_times sc fun cdv A outer s H E F hK wo' room => have tk' : Takes (cxOf (CX P w) P w K mg base ["one", "other", "a", "b", "d", "c", "e", "f"] "times" (defScope s_times) t.a_times cdv A outer s H E) (fun c od _ H' => E c od H') := takes_of rfl rfl rfl rfl
    (ds_cons (ds_expr (d_callX (ok_need_golden t) tk' wo' hK (room.mono (by decide)) rfl t.m_need_golden t.F_need_golden.kp (b_need_golden t) (da_cons (d_var (pv 0)) da_nil)))
    (ds_cons (ds_expr (d_callX (ok_need_golden t) tk' wo' hK (room.mono (by decide)) rfl t.m_need_golden t.F_need_golden.kp (b_need_golden t) (da_cons (d_var (pv 1)) da_nil)))
    (ds_cons (ds_asg (d_var (pv 0)) (dg_tup hK rfl (dgs_cons (dg_name (pg_name (i := 2) sc.nd rfl (by first | exact Or.inl rfl | exact Or.inr rfl))) (dgs_cons (dg_name (pg_name (i := 3) sc.nd rfl (by first | exact Or.inl rfl | exact Or.inr rfl))) (dgs_cons (dg_name (pg_name (i := 4) sc.nd rfl (by first | exact Or.inl rfl | exact Or.inr rfl))) dgs_nil)))))
    (ds_cons (ds_asg (d_var (pv 1)) (dg_tup hK rfl (dgs_cons (dg_name (pg_name (i := 5) sc.nd rfl (by first | exact Or.inl rfl | exact Or.inr rfl))) (dgs_cons (dg_name (pg_name (i := 6) sc.nd rfl (by first | exact Or.inl rfl | exact Or.inr rfl))) (dgs_cons (dg_name (pg_name (i := 7) sc.nd rfl (by first | exact Or.inl rfl | exact Or.inr rfl))) dgs_nil)))))
    (ds_one (ds_ret (d_call (ok__lowest t) hK (room.mono (by decide)) rfl t.m__lowest t.F__lowest.kp (b__lowest t) (da_cons (d_addA hK (d_mulA (d_var (pv 2)) (d_var (pv 5))) (d_mulA (d_var (pv 3)) (d_var (pv 6)))) (da_cons (d_addA hK (d_addA hK (d_mulA (d_var (pv 2)) (d_var (pv 6))) (d_mulA (d_var (pv 3)) (d_var (pv 5)))) (d_mulA (d_var (pv 3)) (d_var (pv 6)))) (da_cons (d_mulA (d_var (pv 4)) (d_var (pv 7))) da_nil))))))))))
def T_quotient : TDS := (dSeq (dDrop (dCallX 1 tf_need_golden (dCons (dVar 0) dNil)))
    (dSeq (dDrop (dCallX 1 tf_need_golden (dCons (dVar 1) dNil)))
    (dSeq (dAsg (dVar 0) (dgTup 3 (dgCons (dgName 2) (dgCons (dgName 3) (dgCons (dgName 4) dgNil)))))
    (dSeq (dAsg (dVar 1) (dgTup 3 (dgCons (dgName 5) (dgCons (dgName 6) (dgCons (dgName 7) dgNil)))))
    (dSeq (dIfS (dtAnd (dTest (dBin gEq (dVar 5) (dC (.int 0)))) (dTest (dBin gEq (dVar 6) (dC (.int 0)))))
    (dRaise0 "DividedByZero")
    dNext)
    (dSeq (dAsg (dBin gSub (dBin gAddA (dBin gMulA (dVar 5) (dVar 5)) (dBin gMulA (dVar 5) (dVar 6))) (dBin gMulA (dVar 6) (dVar 6))) (dgName 8))
    (dRet (dCall 3 tf__lowest (dCons (dBin gMulA (dBin gSub (dBin gMulA (dVar 2) (dBin gAddA (dVar 5) (dVar 6))) (dBin gMulA (dVar 3) (dVar 6))) (dVar 7)) (dCons (dBin gMulA (dBin gSub (dBin gMulA (dVar 3) (dVar 5)) (dBin gMulA (dVar 2) (dVar 6))) (dVar 7)) (dCons (dBin gMulA (dVar 4) (dVar 8)) dNil)))))))))))
def tf_quotient : TF := fun ξ ds Q => tfOf 9 T_quotient ξ ds Q
theorem ok_quotient (t : Tx K mg) : FnG P w K mg base (CX P w) 4 t.a_quotient t.d_quotient ["one", "other"] (spD K 2 tf_quotient) := by
  have sc := sc_quotient
  exact fng_dataX (N := ["one", "other", "a", "b", "d", "c", "e", "f", "norm"]) (T := T_quotient) t.F_quotient sc fun cdv A outer s H E F hK wo' room => have tk' : Takes (cxOf (CX P w) P w K mg base ["one", "other", "a", "b", "d", "c", "e", "f", "norm"] "quotient" (defScope s_quotient) t.a_quotient cdv A outer s H E) (fun c od _ H' => E c od H') := takes_of rfl rfl rfl rfl
    (ds_cons (ds_expr (d_callX (ok_need_golden t) tk' wo' hK (room.mono (by decide)) rfl t.m_need_golden t.F_need_golden.kp (b_need_golden t) (da_cons (d_var (pv 0)) da_nil)))
    (ds_cons (ds_expr (d_callX (ok_need_golden t) tk' wo' hK (room.mono (by decide)) rfl t.m_need_golden t.F_need_golden.kp (b_need_golden t) (da_cons (d_var (pv 1)) da_nil)))
    (ds_cons (ds_asg (d_var (pv 0)) (dg_tup hK rfl (dgs_cons (dg_name (pg_name (i := 2) sc.nd rfl (by first | exact Or.inl rfl | exact Or.inr rfl))) (dgs_cons (dg_name (pg_name (i := 3) sc.nd rfl (by first | exact Or.inl rfl | exact Or.inr rfl))) (dgs_cons (dg_name (pg_name (i := 4) sc.nd rfl (by first | exact Or.inl rfl | exact Or.inr rfl))) dgs_nil)))))
    (ds_cons (ds_asg (d_var (pv 1)) (dg_tup hK rfl (dgs_cons (dg_name (pg_name (i := 5) sc.nd rfl (by first | exact Or.inl rfl | exact Or.inr rfl))) (dgs_cons (dg_name (pg_name (i := 6) sc.nd rfl (by first | exact Or.inl rfl | exact Or.inr rfl))) (dgs_cons (dg_name (pg_name (i := 7) sc.nd rfl (by first | exact Or.inl rfl | exact Or.inr rfl))) dgs_nil)))))
    (ds_cons (ds_if (PW.pt (dw_and (dt_eq hK room.r.units (d_var (pv 5)) d_int) (dw_and1 (dt_eq hK room.r.units (d_var (pv 6)) d_int))))
    (ds_one (ds_raise0 rfl tk' wo' hK PySem.F.excBase_Exception t.C_DividedByZero.q t.C_DividedByZero.g (hK ▸ t.C_DividedByZero.at_) t.C_DividedByZero.kp (raises_own t.C_DividedByZero.sub t.C_DividedByZero.ty) rfl))
    ds_nil)
    (ds_cons (ds_set (i := 8) sc.nd rfl (by first | exact Or.inl rfl | exact Or.inr rfl) (d_sub (d_addA hK (d_mulA (d_var (pv 5)) (d_var (pv 5))) (d_mulA (d_var (pv 5)) (d_var (pv 6)))) (d_mulA (d_var (pv 6)) (d_var (pv 6)))))
    (ds_one (ds_ret (d_call (ok__lowest t) hK (room.mono (by decide)) rfl t.m__lowest t.F__lowest.kp (b__lowest t) (da_cons (d_mulA (d_sub (d_mulA (d_var (pv 2)) (d_addA hK (d_var (pv 5)) (d_var (pv 6)))) (d_mulA (d_var (pv 3)) (d_var (pv 6)))) (d_var (pv 7))) (da_cons (d_mulA (d_sub (d_mulA (d_var (pv 3)) (d_var (pv 5))) (d_mulA (d_var (pv 2)) (d_var (pv 6)))) (d_var (pv 7))) (da_cons (d_mulA (d_var (pv 4)) (d_var (pv 8))) da_nil))))))))))))
def T_sign_of_parts : TDS := (dSeq (dAsg (dBin gAddA (dBin gMulA (dC (.int 2)) (dVar 0)) (dVar 1)) (dgName 2))
    (dSeq (dIfS (dtAnd (dTest (dBin gGe (dVar 2) (dC (.int 0)))) (dTest (dBin gGe (dVar 1) (dC (.int 0)))))
    (dRet (dIf (dtOr (dTest (dBin gGt (dVar 2) (dC (.int 0)))) (dTest (dBin gGt (dVar 1) (dC (.int 0))))) (dC (.int 1)) (dC (.int 0))))
    dNext)
    (dSeq (dIfS (dtAnd (dTest (dBin gLe (dVar 2) (dC (.int 0)))) (dTest (dBin gLe (dVar 1) (dC (.int 0)))))
    (dRet (dUn gNeg (dC (.int 1))))
    dNext)
    (dSeq (dAsg (dBin gGt (dBin gMulA (dVar 2) (dVar 2)) (dBin gMulA (dBin gMulA (dC (.int 5)) (dVar 1)) (dVar 1))) (dgName 3))
    (dRet (dIf (dTest (dBin gEq (dVar 3) (dBin gGt (dVar 2) (dC (.int 0))))) (dC (.int 1)) (dUn gNeg (dC (.int 1)))))))))
def tf_sign_of_parts : TF := fun _ ds Q => tfOf 4 T_sign_of_parts (fun _ => False) ds Q
theorem ok_sign_of_parts (t : Tx K mg) : FnG P w K mg base CX0 1 t.a_sign_of_parts t.d_sign_of_parts ["a", "b"] (spD K 2 tf_sign_of_parts) := by
  have sc := sc_sign_of_parts
  exact fng_data (N := ["a", "b", "front", "does_front_win"]) (T := T_sign_of_parts) t.F_sign_of_parts sc fun cdv A outer s H E F hK hF room =>
    (ds_cons (ds_set (i := 2) sc.nd rfl (by first | exact Or.inl rfl | exact Or.inr rfl) (d_addA hK (d_mulA d_int (d_var (pv 0))) (d_var (pv 1))))
    (ds_cons (ds_if (PW.pt (dw_and (dt_ge (d_var (pv 2)) d_int) (dw_and1 (dt_ge (d_var (pv 1)) d_int))))
    (ds_one (ds_ret (d_if (PW.pt (dw_or (dt_gt (d_var (pv 2)) d_int) (dw_or1 (dt_gt (d_var (pv 1)) d_int)))) d_int d_int)))
    ds_nil)
    (ds_cons (ds_if (PW.pt (dw_and (dt_le (d_var (pv 2)) d_int) (dw_and1 (dt_le (d_var (pv 1)) d_int))))
    (ds_one (ds_ret (d_neg d_int)))
    ds_nil)
    (ds_cons (ds_set (i := 3) sc.nd rfl (by first | exact Or.inl rfl | exact Or.inr rfl) (d_gt (d_mulA (d_var (pv 2)) (d_var (pv 2))) (d_mulA (d_mulA d_int (d_var (pv 1))) (d_var (pv 1)))))
    (ds_one (ds_ret (d_if (dt_eq hK room.r.units (d_var (pv 3)) (d_gt (d_var (pv 2)) d_int)) d_int (d_neg d_int))))))))
def T__order : TDS := (dSeq (dDrop (dCallX 1 tf_need_golden (dCons (dVar 0) dNil)))
    (dSeq (dDrop (dCallX 1 tf_need_golden (dCons (dVar 1) dNil)))
    (dSeq (dAsg (dVar 0) (dgTup 3 (dgCons (dgName 2) (dgCons (dgName 3) (dgCons (dgName 4) dgNil)))))
    (dSeq (dAsg (dVar 1) (dgTup 3 (dgCons (dgName 5) (dgCons (dgName 6) (dgCons (dgName 7) dgNil)))))
    (dRet (dCall 2 tf_sign_of_parts (dCons (dBin gSub (dBin gMulA (dVar 2) (dVar 7)) (dBin gMulA (dVar 5) (dVar 4))) (dCons (dBin gSub (dBin gMulA (dVar 3) (dVar 7)) (dBin gMulA (dVar 6) (dVar 4))) dNil))))))))
def tf__order : TF := fun ξ ds Q => tfOf 8 T__order ξ ds Q
theorem ok__order (t : Tx K mg) : FnG P w K mg base (CX P w) 4 t.a__order t.d__order ["one", "other"] (spD K 2 tf__order) := by
  have sc := sc__order
  exact fng_dataX (N := ["one", "other", "a", "b", "d", "c", "e", "f"]) (T := T__order) t.F__order sc fun cdv A outer s H E F hK wo' room => have tk' : Takes (cxOf (CX P w) P w K mg base ["one", "other", "a", "b", "d", "c", "e", "f"] "_order" (defScope s__order) t.a__order cdv A outer s H E) (fun c od _ H' => E c od H') := takes_of rfl rfl rfl rfl
    (ds_cons (ds_expr (d_callX (ok_need_golden t) tk' wo' hK (room.mono (by decide)) rfl t.m_need_golden t.F_need_golden.kp (b_need_golden t) (da_cons (d_var (pv 0)) da_nil)))
    (ds_cons (ds_expr (d_callX (ok_need_golden t) tk' wo' hK (room.mono (by decide)) rfl t.m_need_golden t.F_need_golden.kp (b_need_golden t) (da_cons (d_var (pv 1)) da_nil)))
    (ds_cons (ds_asg (d_var (pv 0)) (dg_tup hK rfl (dgs_cons (dg_name (pg_name (i := 2) sc.nd rfl (by first | exact Or.inl rfl | exact Or.inr rfl))) (dgs_cons (dg_name (pg_name (i := 3) sc.nd rfl (by first | exact Or.inl rfl | exact Or.inr rfl))) (dgs_cons (dg_name (pg_name (i := 4) sc.nd rfl (by first | exact Or.inl rfl | exact Or.inr rfl))) dgs_nil)))))
    (ds_cons (ds_asg (d_var (pv 1)) (dg_tup hK rfl (dgs_cons (dg_name (pg_name (i := 5) sc.nd rfl (by first | exact Or.inl rfl | exact Or.inr rfl))) (dgs_cons (dg_name (pg_name (i := 6) sc.nd rfl (by first | exact Or.inl rfl | exact Or.inr rfl))) (dgs_cons (dg_name (pg_name (i := 7) sc.nd rfl (by first | exact Or.inl rfl | exact Or.inr rfl))) dgs_nil)))))
    (ds_one (ds_ret (d_call (ok_sign_of_parts t) hK (room.mono (by decide)) rfl t.m_sign_of_parts t.F_sign_of_parts.kp (b_sign_of_parts t) (da_cons (d_sub (d_mulA (d_var (pv 2)) (d_var (pv 7))) (d_mulA (d_var (pv 5)) (d_var (pv 4)))) (da_cons (d_sub (d_mulA (d_var (pv 3)) (d_var (pv 7))) (d_mulA (d_var (pv 6)) (d_var (pv 4)))) da_nil)))))))))
def T_sign : TDS := (dSeq (dDrop (dCallX 1 tf_need_golden (dCons (dVar 0) dNil)))
    (dRet (dCall 2 tf_sign_of_parts (dCons (dBin gIx (dVar 0) (dC (.int 0))) (dCons (dBin gIx (dVar 0) (dC (.int 1))) dNil)))))
def tf_sign : TF := fun ξ ds Q => tfOf 1 T_sign ξ ds Q
theorem ok_sign (t : Tx K mg) : FnG P w K mg base (CX P w) 4 t.a_sign t.d_sign ["number"] (spD K 1 tf_sign) := by
  have sc := sc_sign
  exact fng_dataX (N := ["number"]) (T := T_sign) t.F_sign sc fun cdv A outer s H E F hK wo' room => have tk' : Takes (cxOf (CX P w) P w K mg base ["number"] "sign" (defScope s_sign) t.a_sign cdv A outer s H E) (fun c od _ H' => E c od H') := takes_of rfl rfl rfl rfl
    (ds_cons (ds_expr (d_callX (ok_need_golden t) tk' wo' hK (room.mono (by decide)) rfl t.m_need_golden t.F_need_golden.kp (b_need_golden t) (da_cons (d_var (pv 0)) da_nil)))
    (ds_one (ds_ret (d_call (ok_sign_of_parts t) hK (room.mono (by decide)) rfl t.m_sign_of_parts t.F_sign_of_parts.kp (b_sign_of_parts t) (da_cons (d_ix hK (d_var (pv 0)) d_int (fun _ _ => rfl)) (da_cons (d_ix hK (d_var (pv 0)) d_int (fun _ _ => rfl)) da_nil))))))
def T_is_below : TDS := (dRet (dBin gLt (dCallX 2 tf__order (dCons (dVar 0) (dCons (dVar 1) dNil))) (dC (.int 0))))
def tf_is_below : TF := fun ξ ds Q => tfOf 2 T_is_below ξ ds Q
theorem ok_is_below (t : Tx K mg) : FnG P w K mg base (CX P w) 5 t.a_is_below t.d_is_below ["one", "other"] (spD K 2 tf_is_below) := by
  have sc := sc_is_below
  exact fng_dataX (N := ["one", "other"]) (T := T_is_below) t.F_is_below sc fun cdv A outer s H E F hK wo' room => have tk' : Takes (cxOf (CX P w) P w K mg base ["one", "other"] "is_below" (defScope s_is_below) t.a_is_below cdv A outer s H E) (fun c od _ H' => E c od H') := takes_of rfl rfl rfl rfl
    (ds_one (ds_ret (d_lt (d_callX (ok__order t) tk' wo' hK (room.mono (by decide)) rfl t.m__order t.F__order.kp (b__order t) (da_cons (d_var (pv 0)) (da_cons (d_var (pv 1)) da_nil))) d_int)))
def T_are_equal : TDS := (dRet (dBin gEq (dCallX 2 tf__order (dCons (dVar 0) (dCons (dVar 1) dNil))) (dC (.int 0))))
def tf_are_equal : TF := fun ξ ds Q => tfOf 2 T_are_equal ξ ds Q
theorem ok_are_equal (t : Tx K mg) : FnG P w K mg base (CX P w) 5 t.a_are_equal t.d_are_equal ["one", "other"] (spD K 2 tf_are_equal) := by
  have sc := sc_are_equal
  exact fng_dataX (N := ["one", "other"]) (T := T_are_equal) t.F_are_equal sc fun cdv A outer s H E F hK wo' room => have tk' : Takes (cxOf (CX P w) P w K mg base ["one", "other"] "are_equal" (defScope s_are_equal) t.a_are_equal cdv A outer s H E) (fun c od _ H' => E c od H') := takes_of rfl rfl rfl rfl
    (ds_one (ds_ret (d_eq hK room.r.units (d_callX (ok__order t) tk' wo' hK (room.mono (by decide)) rfl t.m__order t.F__order.kp (b__order t) (da_cons (d_var (pv 0)) (da_cons (d_var (pv 1)) da_nil))) d_int)))
def T_integer_below : TDS := (dSeq (dDrop (dCallX 1 tf_need_golden (dCons (dVar 0) dNil)))
    (dSeq (dAsg (dVar 0) (dgTup 3 (dgCons (dgName 1) (dgCons (dgName 2) (dgCons (dgName 3) dgNil)))))
    (dSeq (dAsg (dCB gIsqrt (dCons (dBin gMulA (dBin gMulA (dC (.int 5)) (dVar 2)) (dVar 2)) dNil)) (dgName 4))
    (dSeq (dIfS (dTest (dBin gLt (dVar 2) (dC (.int 0))))
    (dAsg (dBin gSub (dUn gNeg (dVar 4)) (dC (.int 1))) (dgName 4))
    dNext)
    (dRet (dBin gDivB (dBin gAddA (dBin gAddA (dBin gMulA (dC (.int 2)) (dVar 1)) (dVar 2)) (dVar 4)) (dBin gMulA (dC (.int 2)) (dVar 3))))))))
def tf_integer_below : TF := fun ξ ds Q => tfOf 5 T_integer_below ξ ds Q
theorem ok_integer_below (t : Tx K mg) : FnG P w K mg base (CX P w) 4 t.a_integer_below t.d_integer_below ["number"] (spD K 1 tf_integer_below) := by
  have sc := sc_integer_below
  exact fng_dataX (N := ["number", "a", "b", "d", "root"]) (T := T_integer_below) t.F_integer_below sc fun cdv A outer s H E F hK wo' room => have tk' : Takes (cxOf (CX P w) P w K mg base ["number", "a", "b", "d", "root"] "integer_below" (defScope s_integer_below) t.a_integer_below cdv A outer s H E) (fun c od _ H' => E c od H') := takes_of rfl rfl rfl rfl
    (ds_cons (ds_expr (d_callX (ok_need_golden t) tk' wo' hK (room.mono (by decide)) rfl t.m_need_golden t.F_need_golden.kp (b_need_golden t) (da_cons (d_var (pv 0)) da_nil)))
    (ds_cons (ds_asg (d_var (pv 0)) (dg_tup hK rfl (dgs_cons (dg_name (pg_name (i := 1) sc.nd rfl (by first | exact Or.inl rfl | exact Or.inr rfl))) (dgs_cons (dg_name (pg_name (i := 2) sc.nd rfl (by first | exact Or.inl rfl | exact Or.inr rfl))) (dgs_cons (dg_name (pg_name (i := 3) sc.nd rfl (by first | exact Or.inl rfl | exact Or.inr rfl))) dgs_nil)))))
    (ds_cons (ds_set (i := 4) sc.nd rfl (by first | exact Or.inl rfl | exact Or.inr rfl) (d_callBf cd_isqrt cr_isqrt rfl t.i_isqrt (da_cons (d_mulA (d_mulA d_int (d_var (pv 2))) (d_var (pv 2))) da_nil)))
    (ds_cons (ds_if (dt_lt (d_var (pv 2)) d_int)
    (ds_one (ds_set (i := 4) sc.nd rfl (by first | exact Or.inl rfl | exact Or.inr rfl) (d_sub (d_neg (d_var (pv 4))) d_int)))
    ds_nil)
    (ds_one (ds_ret (d_divB (d_addA hK (d_addA hK (d_mulA d_int (d_var (pv 1))) (d_var (pv 2))) (d_var (pv 4))) (d_mulA d_int (d_var (pv 3))))))))))
def T_integer_above : TDS := (dSeq (dDrop (dCallX 1 tf_need_golden (dCons (dVar 0) dNil)))
    (dSeq (dAsg (dVar 0) (dgTup 3 (dgCons (dgName 1) (dgCons (dgName 2) (dgCons (dgName 3) dgNil)))))
    (dRet (dUn gNeg (dCallX 1 tf_integer_below (dCons (dTup (dCons (dUn gNeg (dVar 1)) (dCons (dUn gNeg (dVar 2)) (dCons (dVar 3) dNil)))) dNil))))))
def tf_integer_above : TF := fun ξ ds Q => tfOf 4 T_integer_above ξ ds Q
theorem ok_integer_above (t : Tx K mg) : FnG P w K mg base (CX P w) 5 t.a_integer_above t.d_integer_above ["number"] (spD K 1 tf_integer_above) := by
  have sc := sc_integer_above
  exact fng_dataX (N := ["number", "a", "b", "d"]) (T := T_integer_above) t.F_integer_above sc fun cdv A outer s H E F hK wo' room => have tk' : Takes (cxOf (CX P w) P w K mg base ["number", "a", "b", "d"] "integer_above" (defScope s_integer_above) t.a_integer_above cdv A outer s H E) (fun c od _ H' => E c od H') := takes_of rfl rfl rfl rfl
    (ds_cons (ds_expr (d_callX (ok_need_golden t) tk' wo' hK (room.mono (by decide)) rfl t.m_need_golden t.F_need_golden.kp (b_need_golden t) (da_cons (d_var (pv 0)) da_nil)))
    (ds_cons (ds_asg (d_var (pv 0)) (dg_tup hK rfl (dgs_cons (dg_name (pg_name (i := 1) sc.nd rfl (by first | exact Or.inl rfl | exact Or.inr rfl))) (dgs_cons (dg_name (pg_name (i := 2) sc.nd rfl (by first | exact Or.inl rfl | exact Or.inr rfl))) (dgs_cons (dg_name (pg_name (i := 3) sc.nd rfl (by first | exact Or.inl rfl | exact Or.inr rfl))) dgs_nil)))))
    (ds_one (ds_ret (d_neg (d_callX (ok_integer_below t) tk' wo' hK (room.mono (by decide)) rfl t.m_integer_below t.F_integer_below.kp (b_integer_below t) (da_cons (d_tup (da_cons (d_neg (d_var (pv 1))) (da_cons (d_neg (d_var (pv 2))) (da_cons (d_var (pv 3)) da_nil)))) da_nil)))))))
def T_is_whole : TDS := (dSeq (dDrop (dCallX 1 tf_need_golden (dCons (dVar 0) dNil)))
    (dSeq (dAsg (dVar 0) (dgTup 3 (dgCons (dgName 1) (dgCons (dgName 2) (dgCons (dgName 3) dgNil)))))
    (dRet (dAnd (dBin gEq (dBin gMod (dVar 1) (dVar 3)) (dC (.int 0))) (dBin gEq (dBin gMod (dVar 2) (dVar 3)) (dC (.int 0)))))))
def tf_is_whole : TF := fun ξ ds Q => tfOf 4 T_is_whole ξ ds Q
theorem ok_is_whole (t : Tx K mg) : FnG P w K mg base (CX P w) 4 t.a_is_whole t.d_is_whole ["number"] (spD K 1 tf_is_whole) := by
  have sc := sc_is_whole
  exact fng_dataX (N := ["number", "a", "b", "d"]) (T := T_is_whole) t.F_is_whole sc fun cdv A outer s H E F hK wo' room => have tk' : Takes (cxOf (CX P w) P w K mg base ["number", "a", "b", "d"] "is_whole" (defScope s_is_whole) t.a_is_whole cdv A outer s H E) (fun c od _ H' => E c od H') := takes_of rfl rfl rfl rfl
    (ds_cons (ds_expr (d_callX (ok_need_golden t) tk' wo' hK (room.mono (by decide)) rfl t.m_need_golden t.F_need_golden.kp (b_need_golden t) (da_cons (d_var (pv 0)) da_nil)))
    (ds_cons (ds_asg (d_var (pv 0)) (dg_tup hK rfl (dgs_cons (dg_name (pg_name (i := 1) sc.nd rfl (by first | exact Or.inl rfl | exact Or.inr rfl))) (dgs_cons (dg_name (pg_name (i := 2) sc.nd rfl (by first | exact Or.inl rfl | exact Or.inr rfl))) (dgs_cons (dg_name (pg_name (i := 3) sc.nd rfl (by first | exact Or.inl rfl | exact Or.inr rfl))) dgs_nil)))))
    (ds_one (ds_ret (d_and (d_eq hK room.r.units (d_mod (d_var (pv 1)) (d_var (pv 3))) d_int) (d_one (d_eq hK room.r.units (d_mod (d_var (pv 2)) (d_var (pv 3))) d_int)))))))
def T_conjugate : TDS := (dSeq (dDrop (dCallX 1 tf_need_golden (dCons (dVar 0) dNil)))
    (dSeq (dAsg (dVar 0) (dgTup 3 (dgCons (dgName 1) (dgCons (dgName 2) (dgCons (dgName 3) dgNil)))))
    (dRet (dCall 3 tf__lowest (dCons (dBin gAddA (dVar 1) (dVar 2)) (dCons (dUn gNeg (dVar 2)) (dCons (dVar 3) dNil)))))))
def tf_conjugate : TF := fun ξ ds Q => tfOf 4 T_conjugate ξ ds Q
theorem ok_conjugate (t : Tx K mg) : FnG P w K mg base (CX P w) 4 t.a_conjugate t.d_conjugate ["number"] (spD K 1 tf_conjugate) := by
  have sc := sc_conjugate
  exact fng_dataX (N := ["number", "a", "b", "d"]) (T := T_conjugate) t.F_conjugate sc fun cdv A outer s H E F hK wo' room => have tk' : Takes (cxOf (CX P w) P w K mg base ["number", "a", "b", "d"] "conjugate" (defScope s_conjugate) t.a_conjugate cdv A outer s H E) (fun c od _ H' => E c od H') := takes_of rfl rfl rfl rfl
    (ds_cons (ds_expr (d_callX (ok_need_golden t) tk' wo' hK (room.mono (by decide)) rfl t.m_need_golden t.F_need_golden.kp (b_need_golden t) (da_cons (d_var (pv 0)) da_nil)))
    (ds_cons (ds_asg (d_var (pv 0)) (dg_tup hK rfl (dgs_cons (dg_name (pg_name (i := 1) sc.nd rfl (by first | exact Or.inl rfl | exact Or.inr rfl))) (dgs_cons (dg_name (pg_name (i := 2) sc.nd rfl (by first | exact Or.inl rfl | exact Or.inr rfl))) (dgs_cons (dg_name (pg_name (i := 3) sc.nd rfl (by first | exact Or.inl rfl | exact Or.inr rfl))) dgs_nil)))))
    (ds_one (ds_ret (d_call (ok__lowest t) hK (room.mono (by decide)) rfl t.m__lowest t.F__lowest.kp (b__lowest t) (da_cons (d_addA hK (d_var (pv 1)) (d_var (pv 2))) (da_cons (d_neg (d_var (pv 2))) (da_cons (d_var (pv 3)) da_nil))))))))
def T_power : TDS := (dSeq (dIfS (dtOr (dtNot (dTest (dCall 1 tf_is_plain_integer (dCons (dVar 0) dNil)))) (dTest (dBin gGt (dCB gAbs (dCons (dVar 0) dNil)) (dC (.int 2000)))))
    (dRaise1 "BadPower" "thing" (dVar 0))
    dNext)
    (dSeq (dAsg (dC (.int 1)) (dgName 1))
    (dSeq (dAsg (dC (.int 0)) (dgName 2))
    (dSeq (dForR (dCons (dCB gAbs (dCons (dVar 0) dNil)) dNil) (dgName 3)
    (dIfS (dTest (dBin gGt (dVar 0) (dC (.int 0))))
    (dPar 1 2 (dCons (dVar 2) (dCons (dBin gAddA (dVar 1) (dVar 2)) dNil)))
    (dPar 1 2 (dCons (dBin gSub (dVar 2) (dVar 1)) (dCons (dVar 1) dNil)))))
    (dRet (dTup (dCons (dVar 1) (dCons (dVar 2) (dCons (dC (.int 1)) dNil)))))))))
def tf_power : TF := fun ξ ds Q => tfOf 4 T_power ξ ds Q
theorem ok_power (t : Tx K mg) : FnG P w K mg base (CX P w) 2 t.a_power t.d_power ["n"] (spD K 1 tf_power) := by
  have sc := sc_power
  exact fng_dataX (N := ["n", "a", "b", "_"]) (T := T_power) t.F_power sc fun cdv A outer s H E F hK wo' room => have tk' : Takes (cxOf (CX P w) P w K mg base ["n", "a", "b", "_"] "power" (defScope s_power) t.a_power cdv A outer s H E) (fun c od _ H' => E c od H') := takes_of rfl rfl rfl rfl
    (ds_cons (ds_if (PW.pt (dw_or (dt_not (dt_val (d_call (ok_is_plain_integer t) hK (room.mono (by decide)) rfl t.m_is_plain_integer t.F_is_plain_integer.kp (b_is_plain_integer t) (da_cons (d_var (pv 0)) da_nil)))) (dw_or1 (dt_gt (d_callB cd_abs call_abs rfl t.n_abs (by decide +kernel) (da_cons (d_var (pv 0)) da_nil)) (d_gint rfl t.k_GREATEST_POWER)))))
    (ds_one (ds_raise1 rfl tk' wo' hK t.X_BadPower t.G_BadPower (bi_BadPower t) it_BadPower room.r (d_var (pv 0)) rfl))
    ds_nil)
    (ds_cons (ds_set (i := 1) sc.nd rfl (by first | exact Or.inl rfl | exact Or.inr rfl) d_int)
    (ds_cons (ds_set (i := 2) sc.nd rfl (by first | exact Or.inl rfl | exact Or.inr rfl) d_int)
    (ds_cons (ds_forR1 (passes_of rfl) rfl rfl t.n_range (da_cons (d_callB cd_abs call_abs rfl t.n_abs (by decide +kernel) (da_cons (d_var (pv 0)) da_nil)) da_nil) (dg_name (pg_name (i := 3) sc.nd rfl (by first | exact Or.inl rfl | exact Or.inr rfl)))
    (ds_one (ds_if (dt_gt (d_var (pv 0)) d_int)
    (ds_one (ds_par (i := 1) (j := 2) rfl sc.nd rfl rfl (by decide) rfl rfl (da_cons (d_var (pv 2)) (da_cons (d_addA hK (d_var (pv 1)) (d_var (pv 2))) da_nil))))
    (ds_one (ds_par (i := 1) (j := 2) rfl sc.nd rfl rfl (by decide) rfl rfl (da_cons (d_sub (d_var (pv 2)) (d_var (pv 1))) (da_cons (d_var (pv 1)) da_nil)))))))
    (ds_one (ds_ret (d_tup (da_cons (d_var (pv 1)) (da_cons (d_var (pv 2)) (da_cons d_int da_nil))))))))))
def T_number_text : TDS := (dSeq (dAsg (dCallX 1 tf_reduced (dCons (dVar 0) dNil)) (dgTup 3 (dgCons (dgName 1) (dgCons (dgName 2) (dgCons (dgName 3) dgNil)))))
    (dSeq (dAsg (dIf (dTest (dBin gLt (dVar 2) (dC (.int 0)))) (dC (.str "-")) (dC (.str "+"))) (dgName 4))
    (dSeq (dAsg (dBin gAddS (dBin gAddS (dBin gAddS (dCall 1 tf_integer_text (dCons (dVar 1) dNil)) (dVar 4)) (dCall 1 tf_integer_text (dCons (dCB gAbs (dCons (dVar 2) dNil)) dNil))) (dC (.str "g"))) (dgName 5))
    (dRet (dIf (dTest (dBin gEq (dVar 3) (dC (.int 1)))) (dVar 5) (dBin gAddS (dBin gAddS (dVar 5) (dC (.str "/"))) (dCall 1 tf_integer_text (dCons (dVar 3) dNil))))))))
def tf_number_text : TF := fun ξ ds Q => tfOf 6 T_number_text ξ ds Q
theorem ok_number_text (t : Tx K mg) : FnG P w K mg base (CX P w) 5 t.a_number_text t.d_number_text ["number"] (spD K 1 tf_number_text) := by
  have sc := sc_number_text
  exact fng_dataX (N := ["number", "a", "b", "d", "mark", "text"]) (T := T_number_text) t.F_number_text sc fun cdv A outer s H E F hK wo' room => have tk' : Takes (cxOf (CX P w) P w K mg base ["number", "a", "b", "d", "mark", "text"] "number_text" (defScope s_number_text) t.a_number_text cdv A outer s H E) (fun c od _ H' => E c od H') := takes_of rfl rfl rfl rfl
    (ds_cons (ds_asg (d_callX (ok_reduced t) tk' wo' hK (room.mono (by decide)) rfl t.m_reduced t.F_reduced.kp (b_reduced t) (da_cons (d_var (pv 0)) da_nil)) (dg_tup hK rfl (dgs_cons (dg_name (pg_name (i := 1) sc.nd rfl (by first | exact Or.inl rfl | exact Or.inr rfl))) (dgs_cons (dg_name (pg_name (i := 2) sc.nd rfl (by first | exact Or.inl rfl | exact Or.inr rfl))) (dgs_cons (dg_name (pg_name (i := 3) sc.nd rfl (by first | exact Or.inl rfl | exact Or.inr rfl))) dgs_nil)))))
    (ds_cons (ds_set (i := 4) sc.nd rfl (by first | exact Or.inl rfl | exact Or.inr rfl) (d_if (dt_lt (d_var (pv 2)) d_int) d_str d_str))
    (ds_cons (ds_set (i := 5) sc.nd rfl (by first | exact Or.inl rfl | exact Or.inr rfl) (d_addS (d_addS (d_addS (d_call (ok_integer_text t) hK (room.mono (by decide)) rfl t.m_integer_text t.F_integer_text.kp (b_integer_text t) (da_cons (d_var (pv 1)) da_nil)) (d_var (pv 4))) (d_call (ok_integer_text t) hK (room.mono (by decide)) rfl t.m_integer_text t.F_integer_text.kp (b_integer_text t) (da_cons (d_callB cd_abs call_abs rfl t.n_abs (by decide +kernel) (da_cons (d_var (pv 2)) da_nil)) da_nil))) d_str))
    (ds_one (ds_ret (d_if (dt_eq hK room.r.units (d_var (pv 3)) d_int) (d_var (pv 5)) (d_addS (d_addS (d_var (pv 5)) d_str) (d_call (ok_integer_text t) hK (room.mono (by decide)) rfl t.m_integer_text t.F_integer_text.kp (b_integer_text t) (da_cons (d_var (pv 3)) da_nil)))))))))
def T_five_by_rule : TDS := (dSeq (dOwn (lLst (dCons (dVar 1) (dCons (dVar 2) dNil))) 3)
    (dSeq (dWhile (dTest (dBin gLt (dLend 3 (dCB gLen (dCons (dVar 3) dNil))) (dC (.int 5))))
    (dApp 3 (dCallX 2 tf_minus (dCons (dCallX 2 tf_times (dCons (dVar 0) (dCons (dOwnIx 3 (dUn gNeg (dC (.int 1)))) dNil))) (dCons (dOwnIx 3 (dUn gNeg (dC (.int 2)))) dNil)))))
    (dFreeze 3 (dRet (dCB gTuple (dCons (dVar 3) dNil))))))
def tf_five_by_rule : TF := fun ξ ds Q => tfOf 4 T_five_by_rule ξ ds Q
theorem ok_five_by_rule (t : Tx K mg) : FnG P w K mg base (CX P w) 5 t.a_five_by_rule t.d_five_by_rule ["factor", "first", "second"] (spD K 3 tf_five_by_rule) := by
  have sc := sc_five_by_rule
  exact fng_dataX (N := ["factor", "first", "second", "five"]) (T := T_five_by_rule) t.F_five_by_rule sc fun cdv A outer s H E F hK wo' room => have tk' : Takes (cxOf (CX P w) P w K mg base ["factor", "first", "second", "five"] "five_by_rule" (defScope s_five_by_rule) t.a_five_by_rule cdv A outer s H E) (fun c od _ H' => E c od H') := takes_of rfl rfl rfl rfl
    (ds_cons (ds_own (i := 3) sc.nd rfl (by first | exact Or.inl rfl | exact Or.inr rfl) (l_lst (da_cons (d_var (pv 1)) (da_cons (d_var (pv 2)) da_nil))))
    (ds_cons (ds_while (passes_of rfl) (dt_lt (d_lend (i := 3) (d_callB (hK ▸ cd_len) call_len_seq rfl t.n_len (by decide +kernel) (da_cons (d_var (pv 3)) da_nil))) d_int)
    (ds_one (ds_app hK (pv 3) (d_callX (ok_minus t) tk' wo' hK (room.mono (by decide)) rfl t.m_minus t.F_minus.kp (b_minus t) (da_cons (d_callX (ok_times t) tk' wo' hK (room.mono (by decide)) rfl t.m_times t.F_times.kp (b_times t) (da_cons (d_var (pv 0)) (da_cons (d_ownIx hK (pv 3) (d_neg d_int) (fun _ _ => rfl)) da_nil))) (da_cons (d_ownIx hK (pv 3) (d_neg d_int) (fun _ _ => rfl)) da_nil))))))
    (dss_freeze (i := 3) (ds_one (ds_ret (d_callTy (hK ▸ cd_tuple) call_tuple_of rfl t.n_tuple (by decide +kernel) (da_cons (d_var (pv 3)) da_nil)))))))
def T_led_round : TDS := (dRet (dCB gTuple (dCons (dLcR (dCons (dC (.int 5)) dNil) 2 dYes (dBin gIx (dVar 0) (dBin gMod (dBin gSub (dVar 2) (dVar 1)) (dC (.int 5))))) dNil)))
def tf_led_round : TF := fun _ ds Q => tfOf 3 T_led_round (fun _ => False) ds Q
theorem ok_led_round (t : Tx K mg) : FnG P w K mg base CX0 1 t.a_led_round t.d_led_round ["five", "many"] (spD K 2 tf_led_round) := by
  have sc := sc_led_round
  exact fng_data (N := ["five", "many", "r"]) (T := T_led_round) t.F_led_round sc fun cdv A outer s H E F hK hF room =>
    (ds_one (ds_ret (d_callTy (hK ▸ cd_tuple) call_tuple_of rfl t.n_tuple (by decide +kernel) (da_cons (d_lcR hK rfl sc.nd rfl t.n_range (da_cons d_int da_nil) (blkOk_by (own := [("r", 2)]) (N := ["five", "many", "r"]) (sc := defScope s_led_round) (by decide +kernel)) rfl (fun _ _ _ _ _ => pg_name (i := 2) sc.nd rfl (Or.inl rfl)) (fun _ _ _ _ _ => dts_nil) (fun _ _ _ _ _ => (d_ix hK (d_var (pv 0)) (d_mod (d_sub (d_var (pv 2)) (d_var (pv 1))) d_int) (fun _ _ => rfl)))) da_nil))))
def T_with_part : TDS := (dRet (dBin gAddA (dBin gAddA (dSl (dVar 0) dNoPart (dPart (dVar 1))) (dTup (dCons (dVar 2) dNil))) (dSl (dVar 0) (dPart (dBin gAddA (dVar 1) (dC (.int 1)))) dNoPart)))
def tf_with_part : TF := fun _ ds Q => tfOf 3 T_with_part (fun _ => False) ds Q
theorem ok_with_part (t : Tx K mg) : FnG P w K mg base CX0 1 t.a_with_part t.d_with_part ["five", "direction", "part"] (spD K 3 tf_with_part) := by
  have sc := sc_with_part
  exact fng_data (N := ["five", "direction", "part"]) (T := T_with_part) t.F_with_part sc fun cdv A outer s H E F hK hF room =>
    (ds_one (ds_ret (d_addA hK (d_addA hK (d_slice hK (d_var (pv 0)) do_none (do_some (d_var (pv 1)))) (d_tup (da_cons (d_var (pv 2)) da_nil))) (d_slice hK (d_var (pv 0)) (do_some (d_addA hK (d_var (pv 1)) d_int)) do_none))))
def T_stepped : TDS := (dRet (dCall 3 tf_with_part (dCons (dVar 0) (dCons (dVar 1) (dCons (dBin gAddA (dBin gIx (dVar 0) (dVar 1)) (dVar 2)) dNil)))))
def tf_stepped : TF := fun _ ds Q => tfOf 3 T_stepped (fun _ => False) ds Q
theorem ok_stepped (t : Tx K mg) : FnG P w K mg base CX0 2 t.a_stepped t.d_stepped ["row", "direction", "by"] (spD K 3 tf_stepped) := by
  have sc := sc_stepped
  exact fng_data (N := ["row", "direction", "by"]) (T := T_stepped) t.F_stepped sc fun cdv A outer s H E F hK hF room =>
    (ds_one (ds_ret (d_call (ok_with_part t) hK (room.mono (by decide)) rfl t.m_with_part t.F_with_part.kp (b_with_part t) (da_cons (d_var (pv 0)) (da_cons (d_var (pv 1)) (da_cons (d_addA hK (d_ix hK (d_var (pv 0)) (d_var (pv 1)) (fun _ _ => rfl)) (d_var (pv 2))) da_nil))))))
def T_keys_by : TDS := (dRet (dCallX 3 tf_five_by_rule (dCons (dC (.tup [.int (0), .int (-1), .int (1)])) (dCons (dCallX 1 tf_reduced (dCons (dVar 0) dNil)) (dCons (dCallX 1 tf_reduced (dCons (dVar 1) dNil)) dNil)))))
def tf_keys_by : TF := fun ξ ds Q => tfOf 2 T_keys_by ξ ds Q
theorem ok_keys_by (t : Tx K mg) : FnG P w K mg base (CX P w) 6 t.a_keys_by t.d_keys_by ["one", "other"] (spD K 2 tf_keys_by) := by
  have sc := sc_keys_by
  exact fng_dataX (N := ["one", "other"]) (T := T_keys_by) t.F_keys_by sc fun cdv A outer s H E F hK wo' room => have tk' : Takes (cxOf (CX P w) P w K mg base ["one", "other"] "keys_by" (defScope s_keys_by) t.a_keys_by cdv A outer s H E) (fun c od _ H' => E c od H') := takes_of rfl rfl rfl rfl
    (ds_one (ds_ret (d_callX (ok_five_by_rule t) tk' wo' hK (room.mono (by decide)) rfl t.m_five_by_rule t.F_five_by_rule.kp (b_five_by_rule t) (da_cons (d_gtup (ns := [0, -1, 1]) hK rfl t.k_KEY_RULE.1 t.k_KEY_RULE.2) (da_cons (d_callX (ok_reduced t) tk' wo' hK (room.mono (by decide)) rfl t.m_reduced t.F_reduced.kp (b_reduced t) (da_cons (d_var (pv 0)) da_nil)) (da_cons (d_callX (ok_reduced t) tk' wo' hK (room.mono (by decide)) rfl t.m_reduced t.F_reduced.kp (b_reduced t) (da_cons (d_var (pv 1)) da_nil)) da_nil))))))
def T__whole_directions : TDS := (dRet (dCB gTuple (dCons (dLcR (dCons (dC (.int 5)) dNil) 1 (dTest (dCallX 1 tf_is_whole (dCons (dBin gIx (dVar 0) (dVar 1)) dNil))) (dVar 1)) dNil)))
def tf__whole_directions : TF := fun ξ ds Q => tfOf 2 T__whole_directions ξ ds Q
theorem ok__whole_directions (t : Tx K mg) : FnG P w K mg base (CX P w) 5 t.a__whole_directions t.d__whole_directions ["all_keys"] (spD K 1 tf__whole_directions) := by
  have sc := sc__whole_directions
  exact fng_dataX (N := ["all_keys", "r"]) (T := T__whole_directions) t.F__whole_directions sc fun cdv A outer s H E F hK wo' room => have tk' : Takes (cxOf (CX P w) P w K mg base ["all_keys", "r"] "_whole_directions" (defScope s__whole_directions) t.a__whole_directions cdv A outer s H E) (fun c od _ H' => E c od H') := takes_of rfl rfl rfl rfl
    (ds_one (ds_ret (d_callTy (hK ▸ cd_tuple) call_tuple_of rfl t.n_tuple (by decide +kernel) (da_cons (d_lcR hK rfl sc.nd rfl t.n_range (da_cons d_int da_nil) (blkOk_by (own := [("r", 1)]) (N := ["all_keys", "r"]) (sc := defScope s__whole_directions) (by decide +kernel)) rfl (fun _ _ _ _ _ => pg_name (i := 1) sc.nd rfl (Or.inl rfl)) (fun _ _ _ _ _ => (dts_one (dt_val (d_callX (ok_is_whole t) takes_none5 (wok_none rfl) hK (room.mono (by decide)) rfl t.m_is_whole t.F_is_whole.kp (b_is_whole t) (da_cons (d_ix hK (d_var (pv 0)) (d_var (pv 1)) (fun _ _ => rfl)) da_nil))))) (fun _ _ _ _ _ => (d_var (pv 1)))) da_nil))))
def T__sides_of : TDS := (dSeq (dAsg (dCallX 1 tf__whole_directions (dCons (dVar 0) dNil)) (dgName 1))
    (dSeq (dIfS (dTest (dBin gEq (dCB gLen (dCons (dVar 1) dNil)) (dC (.int 0))))
    (dRet (dTup (dCons (dC (.tup [.int (0), .int (0), .int (0), .int (0), .int (0)])) dNil)))
    dNext)
    (dSeq (dIfS (dTest (dBin gEq (dCB gLen (dCons (dVar 1) dNil)) (dC (.int 1))))
    (dRet (dTup (dCons (dCall 3 tf_stepped (dCons (dC (.tup [.int (0), .int (0), .int (0), .int (0), .int (0)])) (dCons (dBin gIx (dVar 1) (dC (.int 0))) (dCons (dUn gNeg (dC (.int 1))) dNil)))) (dCons (dCall 3 tf_stepped (dCons (dC (.tup [.int (0), .int (0), .int (0), .int (0), .int (0)])) (dCons (dBin gIx (dVar 1) (dC (.int 0))) (dCons (dC (.int 1)) dNil)))) dNil))))
    dNext)
    (dSeq (dOwn (lLst dNil) 2)
    (dSeq (dForR (dCons (dC (.int 5)) dNil) (dgName 3)
    (dSeq (dAsg (dCall 2 tf_led_round (dCons (dC (.tup [.int (1), .int (-1), .int (1), .int (1), .int (-1)])) (dCons (dVar 3) dNil))) (dgName 4))
    (dSeq (dApp 2 (dVar 4))
    (dApp 2 (dCB gTuple (dCons (dLcV 4 5 dYes (dUn gNeg (dVar 5))) dNil))))))
    (dFreeze 2 (dRet dNo)))))))
def tf__sides_of : TF := fun ξ ds Q => tfOf 6 T__sides_of ξ ds Q
theorem ok__sides_of (t : Tx K mg) : FnG P w K mg base (CX P w) 6 t.a__sides_of t.d__sides_of ["all_keys"] (spD K 1 tf__sides_of) := by
  have sc := sc__sides_of
  exact fng_dataX (N := ["all_keys", "whole", "found", "q", "turned_side", "part"]) (T := T__sides_of) t.F__sides_of sc fun cdv A outer s H E F hK wo' room => have tk' : Takes (cxOf (CX P w) P w K mg base ["all_keys", "whole", "found", "q", "turned_side", "part"] "_sides_of" (defScope s__sides_of) t.a__sides_of cdv A outer s H E) (fun c od _ H' => E c od H') := takes_of rfl rfl rfl rfl
    (ds_cons (ds_set (i := 1) sc.nd rfl (by first | exact Or.inl rfl | exact Or.inr rfl) (d_callX (ok__whole_directions t) tk' wo' hK (room.mono (by decide)) rfl t.m__whole_directions t.F__whole_directions.kp (b__whole_directions t) (da_cons (d_var (pv 0)) da_nil)))
    (ds_cons (ds_if (dt_eq hK room.r.units (d_callB (hK ▸ cd_len) call_len_seq rfl t.n_len (by decide +kernel) (da_cons (d_var (pv 1)) da_nil)) d_int)
    (ds_one (ds_ret (d_tup (da_cons (d_gtup (ns := [0, 0, 0, 0, 0]) hK rfl t.k_REGULAR_SIDE.1 t.k_REGULAR_SIDE.2) da_nil))))
    ds_nil)
    (ds_cons (ds_if (dt_eq hK room.r.units (d_callB (hK ▸ cd_len) call_len_seq rfl t.n_len (by decide +kernel) (da_cons (d_var (pv 1)) da_nil)) d_int)
    (ds_one (ds_ret (d_tup (da_cons (d_call (ok_stepped t) hK (room.mono (by decide)) rfl t.m_stepped t.F_stepped.kp (b_stepped t) (da_cons (d_gtup (ns := [0, 0, 0, 0, 0]) hK rfl t.k_REGULAR_SIDE.1 t.k_REGULAR_SIDE.2) (da_cons (d_ix hK (d_var (pv 1)) d_int (fun _ _ => rfl)) (da_cons (d_neg d_int) da_nil)))) (da_cons (d_call (ok_stepped t) hK (room.mono (by decide)) rfl t.m_stepped t.F_stepped.kp (b_stepped t) (da_cons (d_gtup (ns := [0, 0, 0, 0, 0]) hK rfl t.k_REGULAR_SIDE.1 t.k_REGULAR_SIDE.2) (da_cons (d_ix hK (d_var (pv 1)) d_int (fun _ _ => rfl)) (da_cons d_int da_nil)))) da_nil)))))
    ds_nil)
    (ds_cons (ds_own (i := 2) sc.nd rfl (by first | exact Or.inl rfl | exact Or.inr rfl) (l_lst da_nil))
    (ds_cons (ds_forR1 (passes_of rfl) rfl rfl t.n_range (da_cons d_int da_nil) (dg_name (pg_name (i := 3) sc.nd rfl (by first | exact Or.inl rfl | exact Or.inr rfl)))
    (ds_cons (ds_set (i := 4) sc.nd rfl (by first | exact Or.inl rfl | exact Or.inr rfl) (d_call (ok_led_round t) hK (room.mono (by decide)) rfl t.m_led_round t.F_led_round.kp (b_led_round t) (da_cons (d_gtup (ns := [1, -1, 1, 1, -1]) hK rfl t.k_FIRST_SIDE.1 t.k_FIRST_SIDE.2) (da_cons (d_var (pv 3)) da_nil))))
    (ds_cons (ds_app hK (pv 2) (d_var (pv 4)))
    (ds_one (ds_app hK (pv 2) (d_callTy (hK ▸ cd_tuple) call_tuple_of rfl t.n_tuple (by decide +kernel) (da_cons (d_lcV hK rfl sc.nd (pv 4) (blkOk_by (own := [("part", 5)]) (N := ["all_keys", "whole", "found", "q", "turned_side", "part"]) (sc := defScope s__sides_of) (by decide +kernel)) rfl (fun _ _ _ _ _ => pg_name (i := 5) sc.nd rfl (Or.inl rfl)) (fun _ _ _ _ _ => dts_nil) (fun _ _ _ _ _ => (d_neg (d_var (pv 5))))) da_nil)))))))
    (dss_freeze (i := 2) (ds_one (ds_ret d_no))))))))
def T__sides_of_K : TDS := (dSeq (dAsg (dCallX 1 tf__whole_directions (dCons (dVar 0) dNil)) (dgName 1))
    (dSeq (dIfS (dTest (dBin gEq (dCB gLen (dCons (dVar 1) dNil)) (dC (.int 0))))
    (dRet (dTupK (dCons (dC (.tup [.int (0), .int (0), .int (0), .int (0), .int (0)])) dNil)))
    dNext)
    (dSeq (dIfS (dTest (dBin gEq (dCB gLen (dCons (dVar 1) dNil)) (dC (.int 1))))
    (dRet (dTupK (dCons (dCall 3 tf_stepped (dCons (dC (.tup [.int (0), .int (0), .int (0), .int (0), .int (0)])) (dCons (dBin gIx (dVar 1) (dC (.int 0))) (dCons (dUn gNeg (dC (.int 1))) dNil)))) (dCons (dCall 3 tf_stepped (dCons (dC (.tup [.int (0), .int (0), .int (0), .int (0), .int (0)])) (dCons (dBin gIx (dVar 1) (dC (.int 0))) (dCons (dC (.int 1)) dNil)))) dNil))))
    dNext)
    (dSeq (dOwn (lLst dNil) 2)
    (dSeq (dForR (dCons (dC (.int 5)) dNil) (dgName 3)
    (dSeq (dAsg (dCall 2 tf_led_round (dCons (dC (.tup [.int (1), .int (-1), .int (1), .int (1), .int (-1)])) (dCons (dVar 3) dNil))) (dgName 4))
    (dSeq (dApp 2 (dVar 4))
    (dApp 2 (dCB gTuple (dCons (dLcV 4 5 dYes (dUn gNeg (dVar 5))) dNil))))))
    (dFreeze 2 (dRet dNo)))))))
def tf__sides_of_K : TF := fun ξ ds Q => tfOf 6 T__sides_of_K ξ ds Q
theorem ok__sides_of_K (t : Tx K mg) : FnG P w K mg base (CX P w) 6 t.a__sides_of t.d__sides_of ["all_keys"] (spD K 1 tf__sides_of_K) := by
  have sc := sc__sides_of
  exact fng_dataX (N := ["all_keys", "whole", "found", "q", "turned_side", "part"]) (T := T__sides_of_K) t.F__sides_of sc fun cdv A outer s H E F hK wo' room => have tk' : Takes (cxOf (CX P w) P w K mg base ["all_keys", "whole", "found", "q", "turned_side", "part"] "_sides_of" (defScope s__sides_of) t.a__sides_of cdv A outer s H E) (fun c od _ H' => E c od H') := takes_of rfl rfl rfl rfl
    (ds_cons (ds_set (i := 1) sc.nd rfl (by first | exact Or.inl rfl | exact Or.inr rfl) (d_callX (ok__whole_directions t) tk' wo' hK (room.mono (by decide)) rfl t.m__whole_directions t.F__whole_directions.kp (b__whole_directions t) (da_cons (d_var (pv 0)) da_nil)))
    (ds_cons (ds_if (dt_eq hK room.r.units (d_callB (hK ▸ cd_len) call_len_seq rfl t.n_len (by decide +kernel) (da_cons (d_var (pv 1)) da_nil)) d_int)
    (ds_one (ds_ret (d_tupK (da_cons (d_gtup (ns := [0, 0, 0, 0, 0]) hK rfl t.k_REGULAR_SIDE.1 t.k_REGULAR_SIDE.2) da_nil))))
    ds_nil)
    (ds_cons (ds_if (dt_eq hK room.r.units (d_callB (hK ▸ cd_len) call_len_seq rfl t.n_len (by decide +kernel) (da_cons (d_var (pv 1)) da_nil)) d_int)
    (ds_one (ds_ret (d_tupK (da_cons (d_call (ok_stepped t) hK (room.mono (by decide)) rfl t.m_stepped t.F_stepped.kp (b_stepped t) (da_cons (d_gtup (ns := [0, 0, 0, 0, 0]) hK rfl t.k_REGULAR_SIDE.1 t.k_REGULAR_SIDE.2) (da_cons (d_ix hK (d_var (pv 1)) d_int (fun _ _ => rfl)) (da_cons (d_neg d_int) da_nil)))) (da_cons (d_call (ok_stepped t) hK (room.mono (by decide)) rfl t.m_stepped t.F_stepped.kp (b_stepped t) (da_cons (d_gtup (ns := [0, 0, 0, 0, 0]) hK rfl t.k_REGULAR_SIDE.1 t.k_REGULAR_SIDE.2) (da_cons (d_ix hK (d_var (pv 1)) d_int (fun _ _ => rfl)) (da_cons d_int da_nil)))) da_nil)))))
    ds_nil)
    (ds_cons (ds_own (i := 2) sc.nd rfl (by first | exact Or.inl rfl | exact Or.inr rfl) (l_lst da_nil))
    (ds_cons (ds_forR1 (passes_of rfl) rfl rfl t.n_range (da_cons d_int da_nil) (dg_name (pg_name (i := 3) sc.nd rfl (by first | exact Or.inl rfl | exact Or.inr rfl)))
    (ds_cons (ds_set (i := 4) sc.nd rfl (by first | exact Or.inl rfl | exact Or.inr rfl) (d_call (ok_led_round t) hK (room.mono (by decide)) rfl t.m_led_round t.F_led_round.kp (b_led_round t) (da_cons (d_gtup (ns := [1, -1, 1, 1, -1]) hK rfl t.k_FIRST_SIDE.1 t.k_FIRST_SIDE.2) (da_cons (d_var (pv 3)) da_nil))))
    (ds_cons (ds_app hK (pv 2) (d_var (pv 4)))
    (ds_one (ds_app hK (pv 2) (d_callTy (hK ▸ cd_tuple) call_tuple_of rfl t.n_tuple (by decide +kernel) (da_cons (d_lcV hK rfl sc.nd (pv 4) (blkOk_by (own := [("part", 5)]) (N := ["all_keys", "whole", "found", "q", "turned_side", "part"]) (sc := defScope s__sides_of) (by decide +kernel)) rfl (fun _ _ _ _ _ => pg_name (i := 5) sc.nd rfl (Or.inl rfl)) (fun _ _ _ _ _ => dts_nil) (fun _ _ _ _ _ => (d_neg (d_var (pv 5))))) da_nil)))))))
    (dss_freeze (i := 2) (ds_one (ds_ret d_no))))))))
def T_Floor_init : TDS := (dSeq (dAsg (dCallX 2 tf_keys_by (dCons (dVar 1) (dCons (dVar 2) dNil))) (dgName 4))
    (dIfS (dtOr (dtNot (dTest (dCall 2 tf_are_plain_integers (dCons (dVar 3) (dCons (dC (.int 5)) dNil))))) (dTest (dBin (gInD true) (dVar 3) (dCallX 1 tf__sides_of_K (dCons (dVar 4) dNil)))))
    (dRaise1 "BadSide" "thing" (dVar 3))
    dNext))
def tf_Floor_init : TF := tfI "Floor" ["all_keys", "side"] [4, 3] 5 T_Floor_init
theorem ok_Floor_init (t : Tx K mg) : FnG P w K mg base (CX P w) 7 t.a_Floor_init t.d_Floor_init ["self", "one", "other", "side"] (spI K "Floor" ["all_keys", "side"] 3 tf_Floor_init) := by
  have sc := sc_Floor_init
  exact fng_init (N := ["self", "one", "other", "side", "all_keys"]) (T := T_Floor_init) (js := [4, 3]) 2 t.F_Floor_init sc t.I_Floor (by decide) (by decide) rfl rfl rfl (fun cdv A outer s H E F hK wo' room => have tk' : Takes (cxOf (CX P w) P w K mg base ["self", "one", "other", "side", "all_keys"] "Floor.__init__" (defScope s_Floor_init) t.a_Floor_init cdv A outer s H E) (fun c od _ H' => E c od H') := takes_of rfl rfl rfl rfl
    (ds_cons (ds_set (i := 4) sc.nd rfl (by first | exact Or.inl rfl | exact Or.inr rfl) (d_callX (ok_keys_by t) tk' wo' hK (room.mono (by decide)) rfl t.m_keys_by t.F_keys_by.kp (b_keys_by t) (da_cons (d_var (pv 1)) (da_cons (d_var (pv 2)) da_nil))))
    (ds_one (ds_if (PW.pt (dw_or (dt_not (dt_val (d_call (ok_are_plain_integers t) hK (room.mono (by decide)) rfl t.m_are_plain_integers t.F_are_plain_integers.kp (b_are_plain_integers t) (da_cons (d_var (pv 3)) (da_cons d_int da_nil))))) (dw_or1 (dt_ninD hK (u65 room.r) (d_var (pv 3)) (d_callX (ok__sides_of_K t) tk' wo' hK (room.mono (by decide)) rfl t.m__sides_of t.F__sides_of.kp (b__sides_of t) (da_cons (d_var (pv 4)) da_nil))))))
    (ds_one (ds_raise1 rfl tk' wo' hK t.X_BadSide t.G_BadSide (bi_BadSide t) it_BadSide room.r (d_var (pv 3)) rfl))
    ds_nil))))
    (fun cdv A outer s H E => (ini_cons (ps_fld (pv 0) (pv 4) rfl) (ini_cons (ps_fld (pv 0) (pv 3) rfl) ini_nil)))
def T_Floor_eq : TDS := (dRet (dAnd (dUn (gIsC "Floor") (dVar 1)) (dAnd (dBin gEq (dUn (gFld "all_keys") (dVar 0)) (dUn (gFld "all_keys") (dVar 1))) (dBin gEq (dUn (gFld "side") (dVar 0)) (dUn (gFld "side") (dVar 1))))))
def tf_Floor_eq : TF := fun _ ds Q => tfOf 2 T_Floor_eq (fun _ => False) ds Q
theorem ok_Floor_eq (t : Tx K mg) : FnG P w K mg base CX0 1 t.a_Floor_eq t.d_Floor_eq ["self", "other"] (spD K 2 tf_Floor_eq) := by
  have sc := sc_Floor_eq
  exact fng_data (N := ["self", "other"]) (T := T_Floor_eq) t.F_Floor_eq sc fun cdv A outer s H E F hK hF room =>
    (ds_one (ds_ret (d_and (d_isC t.I_Floor hK rfl t.n_isinstance rfl t.g_Floor (d_var (pv 1))) (d_and (d_eq hK room.r.units (d_fld hK (d_var (pv 0))) (d_fld hK (d_var (pv 1)))) (d_one (d_eq hK room.r.units (d_fld hK (d_var (pv 0))) (d_fld hK (d_var (pv 1)))))))))
theorem ok__law_deck (t : Tx K mg) : FnG P w K mg base CX0 1 t.a__law_deck t.d__law_deck ["_law_script"] (spDeck K) := by
  have sc : FnScope ["_law_script", "_law_mixed", "_law_cell"] ["_law_script"] (defScope s__law_deck) := sc__law_deck
  refine fng_of (N := ["_law_script", "_law_mixed", "_law_cell"]) t.F__law_deck sc ?_ ?_
  · rintro vs H Q E ⟨a, ns, rfl, _⟩
    rfl
  rintro cdv A outer s H vs Q E room ⟨a, ns, rfl, hS, hlen, k⟩
  refine ⟨_, PSs.nox (pss_cons (ps_set (i := 1) sc.nd rfl (.inl rfl) pe_int)
    (pss_cons (ps_for PassesOwn.never rfl (pi_list (pe_slice sl_list (pv 0) po_none (po_some pe_int))) (pg_name (i := 2) sc.nd rfl (.inl rfl))
      (pss_one (ps_set (i := 1) sc.nd rfl (.inl rfl) (pe_op op_mod (pe_callTy call_int1 (by rfl) t.n_int (by decide +kernel) (pa_cons (pe_op op_add (pe_op op_add (pe_op op_mul (pv 1) pe_int) (pe_op op_mod (pe_callTy call_int1 (by rfl) t.n_int (by decide +kernel) (pa_cons (pv 2) pa_nil)) pe_int)) pe_int) pa_nil)) pe_int))))
    (pss_one (ps_ret (pe_disp (pps_cons pe_str (pe_revL (pe_callTy call_list_of (by rfl) t.n_list (by decide +kernel) (pa_cons (pe_slice sl_list (pv 0) po_none (po_some pe_int)) pa_nil)))
      (pps_cons pe_str (pv 1) (pps_cons pe_str pe_int pps_nil))) (by rfl) (by rfl) (fun z => by cases z) (by decide)))))), ?_⟩
  obtain ⟨ms, hms, hml⟩ := cut_ints ns none (some 63)
  refine ⟨_, rfl, _, rfl, a, _, rfl, hS, fun p hp => ⟨p, rfl, ⟨_, SqL.of upd_same⟩, ?_⟩⟩
  rw [hms]
  have S1 : Same H (upd H p (.lst (ms.map V.int))) := (Same.refl H).lay hp
  refine for_list (K := K) (a := p) (xs := ms.map V.int) (fun i σ' H' => ∃ (m : Int) (v : Option V), σ' = [some (.ref a), some (.int m), v] ∧ H' = upd H p (.lst (ms.map V.int))) ⟨_, _, rfl, rfl⟩ ?_ ?_ ?_
  · rintro i σ' H' _ ⟨m, v, rfl, rfl⟩
    exact SqL.of upd_same
  · rintro i x σ' H' hx ⟨m, v, rfl, rfl⟩
    obtain ⟨u, rfl⟩ : ∃ u, x = V.int u := by
      rw [List.getElem?_map, Option.map_eq_some_iff] at hx
      obtain ⟨u, _, e⟩ := hx
      exact ⟨u, e.symm⟩
    refine ⟨_, rfl, _, _, rfl, rfl, .inr ⟨by decide, by decide⟩, _, rfl, .inl ⟨_, rfl, _, _, rfl, rfl, (by show (0 : Int) < _; decide), _, _, rfl, rfl, _, _, rfl, rfl, .inl ⟨_, rfl, _, _, rfl, rfl, (by show (0 : Int) < _; decide), ?_⟩⟩⟩
    exact ⟨_, _, rfl, rfl⟩
  · rintro σ' H' ⟨m, v, rfl, rfl⟩
    intro p2 hp2
    have S2 := S1.lay (o := .dK []) hp2
    refine ⟨_, rfl, _, rfl, a, _, rfl, S2.seq hS, fun p3 hp3 => ⟨p3, _, rfl, .inl (SqL.of upd_same), fun p4 hp4 => ⟨p4, _, rfl, SqL.of upd_same, fun l hl => ?_⟩⟩⟩
    have S3 := S2.lay (o := .lst (cutV (ns.map V.int) none (some 63))) hp3
    have S4 := S3.lay (o := .lst (cutV (ns.map V.int) none (some 63))) hp4
    have S5 := S4.lay (o := .lst (cutV (ns.map V.int) none (some 63)).reverse) hl
    have D2 : upd (upd H p (.lst (ms.map V.int))) p2 (.dK []) p2 = some (.dK []) := upd_same
    have D5 := keepU (o := .lst (cutV (ns.map V.int) none (some 63)).reverse) (keepU (o := .lst (cutV (ns.map V.int) none (some 63))) (keepU (o := .lst (cutV (ns.map V.int) none (some 63))) D2 hp3) hp4) hl
    refine ⟨_, rfl, D5, [(.inr ("left" : Str), .ref l), (.inr ("mixed" : Str), .int m), (.inr ("draws" : Str), .int 0)], rfl, (by show 3 ≤ 15; decide), ?_⟩
    rw [merge_deck]
    have nl : l ≠ p2 := (ne_of_none (keepU (o := .lst (cutV (ns.map V.int) none (some 63))) (keepU (o := .lst (cutV (ns.map V.int) none (some 63))) D2 hp3) hp4) hl).symm
    refine k _ p2 l m ms.reverse (fun q o e => ?_) (S1.free hp2) (S4.free hl) upd_same ?_ (by rw [List.length_reverse]; omega)
    · have nq : q ≠ p2 := ne_of_none e (S1.free hp2)
      rw [upd_ne nq]
      exact S5 q o e
    · rw [upd_ne nl, upd_same, hms, List.map_reverse]
theorem ok__law_draw (t : Tx K mg) : FnG P w K mg base CX0 1 t.a__law_draw t.d__law_draw ["_law_deck_here", "_law_many"] (spD K 2 tf_draw) := by
  have sc : FnScope ["_law_deck_here", "_law_many", "_law_figure", "_law_cell"] ["_law_deck_here", "_law_many"] (defScope s__law_draw) := sc__law_draw
  refine fng_of (N := ["_law_deck_here", "_law_many", "_law_figure", "_law_cell"]) t.F__law_draw sc ?_ ?_
  · rintro vs H Q E ⟨Z, B, ds, Qd, Ed, b, r, hl, _⟩
    rw [← r.length, hl]; rfl
  rintro cdv A outer s H vs Q E room ⟨Z, B, ds, Qd, Ed, b, r, hl, hT, hq, _⟩
  have hu := hu_of room.r
  obtain ⟨a, l, n, hz, rfl, ⟨n0, n1⟩, hT⟩ := draw_reps r hT
  obtain ⟨xs, m, k, h1, h2, h3⟩ := b.deck.1 a l hz
  refine ⟨_, PSs.nox (pss_cons (ps_dput hu (pv 0) pe_str (pe_op op_add (pe_dget hu (pv 0) pe_str (fun _ _ => rfl)) pe_int) rfl)
    (pss_cons (ps_set (i := 2) sc.nd rfl (.inl rfl) (pe_op op_add (pe_dget hu (pv 0) pe_str (fun _ _ => rfl)) (pe_op op_mul pe_int (pe_dget hu (pv 0) pe_str (fun _ _ => rfl)))))
    (pss_cons (ps_if (pt_cmpR (op_neD room.r.units) (pe_dget hu (pv 0) pe_str (fun _ _ => rfl)) (pe_lst pa_nil) (nomark _))
      (pss_cons (ps_set (i := 3) sc.nd rfl (.inl rfl) (pe_bm0 PySem.F.plainAttrs_list PySem.F.slot_list_pop PySem.F.type_list_pop mt_pop (pe_dget hu (pv 0) pe_str (fun _ _ => rfl))))
      (pss_cons (ps_if (pt_cmpR op_ge (pv 3) (pe_op op_pow pe_int pe_int) (nomark _))
        (pss_cons (ps_expr (pe_bm PySem.F.plainAttrs_list PySem.F.slot_list_append PySem.F.type_list_append mt_append (pe_dget hu (pv 0) pe_str (fun _ _ => rfl))
          (pa_cons (pe_op op_fdiv (pv 3) (pe_callB (call_max2 rfl) (by rfl) t.n_max (by decide +kernel) (pa_cons pe_int (pa_cons (pv 1) pa_nil)))) pa_nil)))
        (pss_one (ps_ret (pe_op op_mod (pe_callTy call_int1 (by rfl) t.n_int (by decide +kernel) (pa_cons (pv 3) pa_nil)) (pv 1)))))
        pss_nil)
      (pss_one (ps_set (i := 2) sc.nd rfl (.inl rfl) (pe_op op_add (pv 2) (pe_op op_mod (pe_callTy call_int1 (by rfl) t.n_int (by decide +kernel) (pa_cons (pv 3) pa_nil)) pe_int))))))
      pss_nil)
    (pss_cons (ps_set (i := 2) sc.nd rfl (.inl rfl) (pe_op op_mod (pe_callTy call_int1 (by rfl) t.n_int (by decide +kernel) (pa_cons (pe_op op_add (pe_op op_mul (pv 2) pe_int) pe_int) pa_nil)) pe_int))
    (pss_cons (ps_set (i := 2) sc.nd rfl (.inl rfl) (pe_op op_mod (pe_callTy call_int1 (by rfl) t.n_int (by decide +kernel) (pa_cons (pe_op op_add (pe_op op_add (pe_op op_mul (pv 2) (pv 2)) (pe_op op_mul pe_int (pe_dget hu (pv 0) pe_str (fun _ _ => rfl)))) pe_int) pa_nil)) pe_int))
    (pss_cons (ps_set (i := 2) sc.nd rfl (.inl rfl) (pe_op op_mod (pe_callTy call_int1 (by rfl) t.n_int (by decide +kernel) (pa_cons (pe_op op_mul (pv 2) pe_int) pa_nil)) pe_int))
    (pss_one (ps_ret (pe_op op_mod (pe_callTy call_int1 (by rfl) t.n_int (by decide +kernel) (pa_cons (pe_op op_fdiv (pv 2) pe_int) pa_nil)) (pv 1)))))))))), ?_⟩
  have hne : a ≠ l := ne_of h1 h2 (by intro z; cases z)
  have K0 : Dk a l H H m k xs := ⟨fun _ _ _ _ e => e, h1, h2, hne, fun _ _ t => t⟩
  have zq : ∀ {H' : Hp} {m k : Int} {ys : List Int} {r : Int}, Dk a l H H' m k ys → ys.length ≤ 63 → 0 ≤ r → r < n → Q (.int r) H' := fun d hy r0 r1 => hq _ _ (.int _) (d.ext hy hz) rfl (hT _ r0 r1)
  -- the number of draws
  refine ⟨_, rfl, a, _, rfl, dg_d h1, _, _, rfl, rfl, _, rfl, a, _, rfl, dp_d h1, ?_⟩
  have K1 := K0.put (j := k + 1)
  -- the figure
  refine ⟨_, rfl, a, _, rfl, dg_m K1.dict, _, rfl, a, _, rfl, dg_d K1.dict, _, _, rfl, rfl, .inl ⟨by decide, by decide⟩, _, _, rfl, rfl, ?_⟩
  have K2 : ∀ p, (upd H a (.dK (deckKvs l m (k + 1)))) p = none → Dk a l H (upd (upd H a (.dK (deckKvs l m (k + 1)))) p (.lst [])) m (k + 1) xs := fun p hp => K1.new hp
  refine ⟨_, rfl, a, _, rfl, dg_l K1.dict, Nat.zero_le _, fun p hp => ?_⟩
  have K3 := K2 p hp
  refine ⟨.list (xs.map PyData.int), .list [], .lst (SqL.of K3.list) (dp_ints xs), .lst (SqL.of upd_same) .nil, shaped_ints xs, rfl, _, rfl, ?_⟩
  rw [eqv_ints_nil]
  generalize hb : (!xs.isEmpty) = bb
  have big : ∀ x : Int, -(2 ^ 64) < x % 2147483563 ∧ x % 2147483563 < 2 ^ 64 := fun x => by omega
  obtain e | ⟨xs', cell, e⟩ := last_of xs
  · subst e
    have hb : false = bb := hb
    subst hb
    refine iteF ?_
    have K9 := K3
    have hy : ([] : List Int).length ≤ 63 := h3
    refine ⟨_, rfl, _, _, rfl, rfl, .inr ⟨by decide, by decide⟩, _, _, rfl, rfl, .inl ⟨_, rfl, _, _, rfl, rfl, (by show (0 : Int) < _; decide), ?_⟩⟩
    refine ⟨_, rfl, _, rfl, _, _, rfl, rfl, .inl (big _), _, rfl, a, _, rfl, dg_d K9.dict, _, _, rfl, rfl, .inl ⟨by decide, by decide⟩, _, _, rfl, rfl, _, _, rfl, rfl, .inl ⟨_, rfl, _, _, rfl, rfl, (by show (0 : Int) < _; decide), ?_⟩⟩
    refine ⟨_, rfl, _, _, rfl, rfl, .inr ⟨by decide, by decide⟩, .inl ⟨_, rfl, _, _, rfl, rfl, (by show (0 : Int) < _; decide), ?_⟩⟩
    refine ⟨_, rfl, _, _, rfl, rfl, ⟨by decide, by decide⟩, .inl ⟨_, rfl, _, rfl, _, _, rfl, rfl, n0, ?_⟩⟩
    exact zq K9 hy (Int.emod_nonneg _ (by omega)) (Int.emod_lt_of_pos _ n0)
  · subst e
    have hy : xs'.length ≤ 62 := by simpa using h3
    have hb : true = bb := by rw [← hb]; simp
    subst hb
    refine iteT ?_
    refine ⟨_, rfl, a, _, rfl, dg_l K3.dict, .inl ⟨rfl, _, SqL.of K3.list⟩, l, _, .int cell, rfl, rfl, K3.list, by simp, ?_⟩
    rw [show ((xs' ++ [cell]).map V.int).dropLast = xs'.map V.int from by simp]
    have K9 := K3.set (ys := xs')
    refine ⟨_, rfl, _, _, rfl, rfl, ⟨by decide, by decide, by decide⟩, _, _, rfl, rfl, _, rfl, ?_⟩
    refine ite2 (fun _ => ?_) (fun _ => ?_)
    · refine ⟨_, rfl, a, _, rfl, dg_l K9.dict, .inl ⟨rfl, _, SqL.of K9.list⟩, _, rfl, _, rfl, _, _, rfl, _, _, rfl, rfl, ⟨by split <;> omega, by split <;> omega⟩, l, _, _, rfl, rfl, K9.list, by rw [List.length_map, sizeLine_eq]; omega, ?_⟩
      refine ⟨_, rfl, .inl ⟨_, rfl, _, rfl, _, _, rfl, rfl, n0, ?_⟩⟩
      rw [show ∀ q : Int, xs'.map V.int ++ [V.int q] = (xs' ++ [q]).map V.int from fun q => by simp]
      exact zq (K9.set (ys := xs' ++ [_])) (by simp; omega) (Int.emod_nonneg _ (by omega)) (Int.emod_lt_of_pos _ n0)
    · refine ⟨_, rfl, _, rfl, .inl ⟨_, rfl, _, _, rfl, rfl, (by show (0 : Int) < _; decide), _, _, rfl, rfl, ?_⟩⟩
      have hy : xs'.length ≤ 63 := by omega
      refine ⟨_, rfl, _, _, rfl, rfl, .inr ⟨by decide, by decide⟩, _, _, rfl, rfl, .inl ⟨_, rfl, _, _, rfl, rfl, (by show (0 : Int) < _; decide), ?_⟩⟩
      refine ⟨_, rfl, _, rfl, _, _, rfl, rfl, .inl (big _), _, rfl, a, _, rfl, dg_d K9.dict, _, _, rfl, rfl, .inl ⟨by decide, by decide⟩, _, _, rfl, rfl, _, _, rfl, rfl, .inl ⟨_, rfl, _, _, rfl, rfl, (by show (0 : Int) < _; decide), ?_⟩⟩
      refine ⟨_, rfl, _, _, rfl, rfl, .inr ⟨by decide, by decide⟩, .inl ⟨_, rfl, _, _, rfl, rfl, (by show (0 : Int) < _; decide), ?_⟩⟩
      refine ⟨_, rfl, _, _, rfl, rfl, ⟨by decide, by decide⟩, .inl ⟨_, rfl, _, rfl, _, _, rfl, rfl, n0, ?_⟩⟩
      exact zq K9 hy (Int.emod_nonneg _ (by omega)) (Int.emod_lt_of_pos _ n0)
def T__law_pick : TDS := (dRet (dBin gIx (dVar 1) (dCall 2 tf_draw (dCons (dVar 0) (dCons (dCB gLen (dCons (dVar 1) dNil)) dNil)))))
def tf__law_pick : TF := fun _ ds Q => tfOf 2 T__law_pick (fun _ => False) ds Q
theorem ok__law_pick (t : Tx K mg) : FnG P w K mg base CX0 2 t.a__law_pick t.d__law_pick ["_law_deck_here", "_law_some"] (spD K 2 tf__law_pick) := by
  have sc := sc__law_pick
  exact fng_data (N := ["_law_deck_here", "_law_some"]) (T := T__law_pick) t.F__law_pick sc fun cdv A outer s H E F hK hF room =>
    (ds_one (ds_ret (d_ix hK (d_var (pv 1)) (d_call (ok__law_draw t) hK (room.mono (by decide)) rfl t.m__law_draw t.F__law_draw.kp (b__law_draw t) (da_cons (d_var (pv 0)) (da_cons (d_callB (hK ▸ cd_len) call_len_seq rfl t.n_len (by decide +kernel) (da_cons (d_var (pv 1)) da_nil)) da_nil))) (fun _ _ => rfl))))
def T__law_integer : TDS := (dSeq (dPar3 2 3 4 (dCons (dCall 2 tf_draw (dCons (dVar 0) (dCons (dC (.int 9)) dNil))) (dCons (dBin gSub (dC (.int 1)) (dBin gMulA (dC (.int 2)) (dCall 2 tf_draw (dCons (dVar 0) (dCons (dC (.int 2)) dNil))))) (dCons (dC (.int 0)) dNil))))
    (dSeq (dIfS (dTest (dBin gLt (dVar 2) (dC (.int 6))))
    (dRet (dBin gMulA (dVar 3) (dCall 2 tf_draw (dCons (dVar 0) (dCons (dBin gIx (dTup (dCons (dC (.int 1)) (dCons (dC (.int 3)) (dCons (dC (.int 5)) (dCons (dC (.int 13)) (dCons (dC (.int 100)) (dCons (dC (.int 1000)) dNil))))))) (dVar 2)) dNil)))))
    dNext)
    (dSeq (dIfS (dTest (dBin gEq (dVar 2) (dC (.int 6))))
    (dRet (dBin gMulA (dVar 3) (dBin gSub (dUn gNinesB (dBin gMulA (dC (.int 6)) (dVar 1))) (dCall 2 tf_draw (dCons (dVar 0) (dCons (dC (.int 50)) dNil))))))
    dNext)
    (dSeq (dForR (dCons (dBin gAddA (dC (.int 1)) (dCall 2 tf_draw (dCons (dVar 0) (dCons (dVar 1) dNil)))) dNil) (dgName 5)
    (dAsg (dBin gAddA (dBin gMulA (dVar 4) (dBin gPow (dC (.int 10)) (dC (.int 6)))) (dCall 2 tf_draw (dCons (dVar 0) (dCons (dBin gPow (dC (.int 10)) (dC (.int 6))) dNil)))) (dgName 4)))
    (dRet (dBin gMulA (dVar 3) (dVar 4)))))))
def tf__law_integer : TF := fun _ ds Q => tfOf 6 T__law_integer (fun _ => False) ds Q
theorem ok__law_integer (t : Tx K mg) : FnG P w K mg base CX0 2 t.a__law_integer t.d__law_integer ["_law_deck_here", "_law_pieces"] (spD K 2 tf__law_integer) := by
  have sc := sc__law_integer
  exact fng_data (N := ["_law_deck_here", "_law_pieces", "_law_way", "_law_facing", "_law_found", "_law_piece"]) (T := T__law_integer) t.F__law_integer sc fun cdv A outer s H E F hK hF room =>
    (ds_cons (ds_par3 (i := 2) (j := 3) (l := 4) rfl sc.nd rfl rfl rfl (by decide) (by decide) (by decide) rfl rfl rfl (da_cons (d_call (ok__law_draw t) hK (room.mono (by decide)) rfl t.m__law_draw t.F__law_draw.kp (b__law_draw t) (da_cons (d_var (pv 0)) (da_cons d_int da_nil))) (da_cons (d_sub d_int (d_mulA d_int (d_call (ok__law_draw t) hK (room.mono (by decide)) rfl t.m__law_draw t.F__law_draw.kp (b__law_draw t) (da_cons (d_var (pv 0)) (da_cons d_int da_nil))))) (da_cons d_int da_nil))))
    (ds_cons (ds_if (dt_lt (d_var (pv 2)) d_int)
    (ds_one (ds_ret (d_mulA (d_var (pv 3)) (d_call (ok__law_draw t) hK (room.mono (by decide)) rfl t.m__law_draw t.F__law_draw.kp (b__law_draw t) (da_cons (d_var (pv 0)) (da_cons (d_ix hK (d_tup (da_cons d_int (da_cons d_int (da_cons d_int (da_cons d_int (da_cons d_int (da_cons d_int da_nil))))))) (d_var (pv 2)) (fun _ _ => rfl)) da_nil))))))
    ds_nil)
    (ds_cons (ds_if (dt_eq hK room.r.units (d_var (pv 2)) d_int)
    (ds_one (ds_ret (d_mulA (d_var (pv 3)) (d_sub (d_ninesB (hK ▸ t.mx) rfl t.n_int (d_mulA d_int (d_var (pv 1)))) (d_call (ok__law_draw t) hK (room.mono (by decide)) rfl t.m__law_draw t.F__law_draw.kp (b__law_draw t) (da_cons (d_var (pv 0)) (da_cons d_int da_nil)))))))
    ds_nil)
    (ds_cons (ds_forR1 PassesOwn.never rfl rfl t.n_range (da_cons (d_addA hK d_int (d_call (ok__law_draw t) hK (room.mono (by decide)) rfl t.m__law_draw t.F__law_draw.kp (b__law_draw t) (da_cons (d_var (pv 0)) (da_cons (d_var (pv 1)) da_nil)))) da_nil) (dg_name (pg_name (i := 5) sc.nd rfl (by first | exact Or.inl rfl | exact Or.inr rfl)))
    (ds_one (ds_set (i := 4) sc.nd rfl (by first | exact Or.inl rfl | exact Or.inr rfl) (d_addA hK (d_mulA (d_var (pv 4)) (d_pow d_int d_int)) (d_call (ok__law_draw t) hK (room.mono (by decide)) rfl t.m__law_draw t.F__law_draw.kp (b__law_draw t) (da_cons (d_var (pv 0)) (da_cons (d_pow d_int d_int) da_nil)))))))
    (ds_one (ds_ret (d_mulA (d_var (pv 3)) (d_var (pv 4)))))))))
def T__law_same : TDS := (dRet (dBin gEq (dCB gReprR (dCons (dVar 0) dNil)) (dCB gReprR (dCons (dVar 1) dNil))))
def tf__law_same : TF := fun _ ds Q => tfOf 2 T__law_same (fun _ => False) ds Q
theorem ok__law_same (t : Tx K mg) : FnG P w K mg base CX0 1 t.a__law_same t.d__law_same ["_law_told", "_law_due"] (spD K 2 tf__law_same) := by
  have sc := sc__law_same
  exact fng_data (N := ["_law_told", "_law_due"]) (T := T__law_same) t.F__law_same sc fun cdv A outer s H E F hK hF room =>
    (ds_one (ds_ret (d_eq hK room.r.units (d_reprR hK t.sm room.g (units80 room.r) rfl t.n_repr (da_cons (d_var (pv 0)) da_nil)) (d_reprR hK t.sm room.g (units80 room.r) rfl t.n_repr (da_cons (d_var (pv 1)) da_nil)))))
def T__law_golden : TDS := (dSeq (dAsg (dCall 2 tf_draw (dCons (dVar 0) (dCons (dC (.int 6)) dNil))) (dgName 1))
    (dSeq (dIfS (dTest (dBin gEq (dVar 1) (dC (.int 0))))
    (dRet (dTup (dCons (dC (.int 0)) (dCons (dC (.int 0)) (dCons (dBin gAddA (dC (.int 1)) (dCall 2 tf_draw (dCons (dVar 0) (dCons (dC (.int 5)) dNil)))) dNil)))))
    dNext)
    (dRet (dTup (dCons (dCall 2 tf__law_integer (dCons (dVar 0) (dCons (dC (.int 6)) dNil))) (dCons (dCall 2 tf__law_integer (dCons (dVar 0) (dCons (dC (.int 6)) dNil))) (dCons (dBin gAddA (dC (.int 1)) (dIf (dTest (dBin gLt (dVar 1) (dC (.int 4)))) (dCall 2 tf_draw (dCons (dVar 0) (dCons (dC (.int 12)) dNil))) (dCB gAbs (dCons (dCall 2 tf__law_integer (dCons (dVar 0) (dCons (dC (.int 6)) dNil))) dNil)))) dNil)))))))
def tf__law_golden : TF := fun _ ds Q => tfOf 2 T__law_golden (fun _ => False) ds Q
theorem ok__law_golden (t : Tx K mg) : FnG P w K mg base CX0 3 t.a__law_golden t.d__law_golden ["_law_deck_here"] (spD K 1 tf__law_golden) := by
  have sc := sc__law_golden
  exact fng_data (N := ["_law_deck_here", "_law_way"]) (T := T__law_golden) t.F__law_golden sc fun cdv A outer s H E F hK hF room =>
    (ds_cons (ds_set (i := 1) sc.nd rfl (by first | exact Or.inl rfl | exact Or.inr rfl) (d_call (ok__law_draw t) hK (room.mono (by decide)) rfl t.m__law_draw t.F__law_draw.kp (b__law_draw t) (da_cons (d_var (pv 0)) (da_cons d_int da_nil))))
    (ds_cons (ds_if (dt_eq hK room.r.units (d_var (pv 1)) d_int)
    (ds_one (ds_ret (d_tup (da_cons d_int (da_cons d_int (da_cons (d_addA hK d_int (d_call (ok__law_draw t) hK (room.mono (by decide)) rfl t.m__law_draw t.F__law_draw.kp (b__law_draw t) (da_cons (d_var (pv 0)) (da_cons d_int da_nil)))) da_nil))))))
    ds_nil)
    (ds_one (ds_ret (d_tup (da_cons (d_call (ok__law_integer t) hK (room.mono (by decide)) rfl t.m__law_integer t.F__law_integer.kp (b__law_integer t) (da_cons (d_var (pv 0)) (da_cons d_int da_nil))) (da_cons (d_call (ok__law_integer t) hK (room.mono (by decide)) rfl t.m__law_integer t.F__law_integer.kp (b__law_integer t) (da_cons (d_var (pv 0)) (da_cons d_int da_nil))) (da_cons (d_addA hK d_int (d_if (dt_lt (d_var (pv 1)) d_int) (d_call (ok__law_draw t) hK (room.mono (by decide)) rfl t.m__law_draw t.F__law_draw.kp (b__law_draw t) (da_cons (d_var (pv 0)) (da_cons d_int da_nil))) (d_callB cd_abs call_abs rfl t.n_abs (by decide +kernel) (da_cons (d_call (ok__law_integer t) hK (room.mono (by decide)) rfl t.m__law_integer t.F__law_integer.kp (b__law_integer t) (da_cons (d_var (pv 0)) (da_cons d_int da_nil))) da_nil)))) da_nil))))))))
def T__law_odd : TDS := (dSeq (dAsg (dLst (dCons (dC .non) (dCons (dC (.bl true)) (dCons (dC (.bl false)) (dCons (dC (.int 0)) (dCons (dC (.int 1)) (dCons (dUn gNeg (dC (.int 1))) (dCons (dC (.int 2)) (dCons (dC (.str "")) (dCons (dC (.str "0+0g")) (dCons (dTup dNil) (dCons (dTup (dCons (dTup dNil) dNil)) (dCons (dLst dNil) (dCons (dC (.dct [] [])) (dCons (dTup (dCons (dC (.int 0)) dNil)) (dCons (dTup (dCons (dC (.int 0)) (dCons (dC (.int 1)) dNil))) (dCons (dLst (dCons (dC (.int 0)) (dCons (dC (.int 1)) (dCons (dC (.int 1)) dNil)))) (dCons (dTup (dCons (dC (.int 1)) (dCons (dC (.int 0)) dNil))) (dCons (dUn gNinesB (dC (.int 100))) dNil))))))))))))))))))) (dgName 2))
    (dSeq (dAsg (dBin gAddA (dVar 2) (dLst (dCons (dC (.str "1\n~")) (dCons (dDict1 (.inr "a") (dTup (dCons (dC (.int 1)) (dCons (dC (.int 2)) (dCons (dC (.int 3)) dNil))))) (dCons (dTup (dCons (dTup (dCons (dC (.int 0)) (dCons (dC (.int 1)) dNil))) (dCons (dC (.int 1)) (dCons (dC (.int 1)) dNil)))) (dCons (dTup (dCons (dC (.int 0)) (dCons (dC (.int 0)) (dCons (dC (.int 0)) dNil)))) (dCons (dTup (dCons (dC (.int 0)) (dCons (dC (.int 1)) (dCons (dC (.int 1)) (dCons (dC (.int 1)) dNil))))) (dCons (dTup (dCons (dC .non) (dCons (dC (.int 0)) (dCons (dC (.int 1)) dNil)))) (dCons (dTup (dCons (dC (.int 1)) (dCons (dC (.int 2)) (dCons (dUn gNeg (dC (.int 3))) dNil)))) (dCons (dTup (dCons (dC (.int 1)) (dCons (dC (.int 2)) (dCons (dC (.bl true)) dNil)))) dNil)))))))))) (dgName 2))
    (dSeq (dAsg (dBin gAddA (dVar 2) (dLst (dCons (dTup (dCons (dC (.bl false)) (dCons (dC (.int 0)) (dCons (dC (.int 1)) dNil)))) (dCons (dTup (dCons (dC (.int 1)) (dCons (dC (.str "0")) (dCons (dC (.int 1)) dNil)))) (dCons (dTup (dCons (dC (.int 1)) (dCons (dC (.int 2)) (dCons (dC (.int 0)) dNil)))) (dCons (dTup (dCons (dC (.int 0)) (dCons (dC (.int 0)) (dCons (dUn gNeg (dC (.int 1))) dNil)))) (dCons (dTup (dCons (dLst (dCons (dC (.int 1)) dNil)) (dCons (dC (.int 2)) (dCons (dC (.int 3)) dNil)))) (dCons (dTup (dCons (dC (.int 1)) (dCons (dC (.int 2)) (dCons (dC .non) dNil)))) (dCons (dUn gNeg (dUn gNinesB (dC (.int 100)))) (dCons (dC (.str "1+1g")) dNil)))))))))) (dgName 2))
    (dSeq (dIfS (dTest (dUn (gIs .tuple) (dVar 1)))
    (dAsg (dBin gAddA (dVar 2) (dBin gMulA (dLst (dCons (dCB gList (dCons (dVar 1) dNil)) (dCons (dBin gAddA (dVar 1) (dTup (dCons (dC (.int 1)) dNil))) (dCons (dSl (dVar 1) (dPart (dC (.int 1))) dNoPart) (dCons (dSl (dVar 1) dNoPart (dPart (dUn gNeg (dC (.int 1))))) (dCons (dTup (dCons (dVar 1) dNil)) (dCons (dBin gAddA (dSl (dVar 1) dNoPart (dPart (dC (.int 2)))) (dTup (dCons (dC (.int 0)) dNil))) (dCons (dBin gAddA (dSl (dVar 1) dNoPart (dPart (dC (.int 2)))) (dVar 1)) (dCons (dTup (dCons (dVar 1) (dCons (dVar 1) (dCons (dVar 1) dNil)))) dNil))))))))) (dC (.int 2)))) (dgName 2))
    (dIfS (dTest (dUn (gIs .int) (dVar 1)))
    (dAsg (dBin gAddA (dVar 2) (dBin gMulA (dLst (dCons (dBin gEq (dVar 1) (dC (.int 1))) (dCons (dLst (dCons (dVar 1) dNil)) (dCons (dTup (dCons (dVar 1) dNil)) (dCons (dCB gStr (dCons (dVar 1) dNil)) (dCons (dBin gMulA (dVar 1) (dC (.int 2))) (dCons (dUn gNeg (dVar 1)) (dCons (dBin gSub (dUn gNeg (dC (.int 1))) (dCB gAbs (dCons (dVar 1) dNil))) dNil)))))))) (dC (.int 3)))) (dgName 2))
    dNext))
    (dRet (dCall 2 tf__law_pick (dCons (dVar 0) (dCons (dVar 2) dNil))))))))
def tf__law_odd : TF := fun _ ds Q => tfOf 3 T__law_odd (fun _ => False) ds Q
theorem ok__law_odd (t : Tx K mg) : FnG P w K mg base CX0 3 t.a__law_odd t.d__law_odd ["_law_deck_here", "_law_it"] (spD K 2 tf__law_odd) := by
  have sc := sc__law_odd
  exact fng_data (N := ["_law_deck_here", "_law_it", "_law_some"]) (T := T__law_odd) t.F__law_odd sc fun cdv A outer s H E F hK hF room =>
    (ds_cons (ds_set (i := 2) sc.nd rfl (by first | exact Or.inl rfl | exact Or.inr rfl) (d_lst (da_cons d_non (da_cons d_bl (da_cons d_bl (da_cons d_int (da_cons d_int (da_cons (d_neg d_int) (da_cons d_int (da_cons d_str (da_cons d_str (da_cons (d_tup da_nil) (da_cons (d_tup (da_cons (d_tup da_nil) da_nil)) (da_cons (d_lst da_nil) (da_cons d_dict0 (da_cons (d_tup (da_cons d_int da_nil)) (da_cons (d_tup (da_cons d_int (da_cons d_int da_nil))) (da_cons (d_lst (da_cons d_int (da_cons d_int (da_cons d_int da_nil)))) (da_cons (d_tup (da_cons d_int (da_cons d_int da_nil))) (da_cons (d_ninesB (hK ▸ t.mx) rfl t.n_int d_int) da_nil))))))))))))))))))))
    (ds_cons (ds_set (i := 2) sc.nd rfl (by first | exact Or.inl rfl | exact Or.inr rfl) (d_addA hK (d_var (pv 2)) (d_lst (da_cons d_str (da_cons (d_dict1 pe_str (d_tup (da_cons d_int (da_cons d_int (da_cons d_int da_nil))))) (da_cons (d_tup (da_cons (d_tup (da_cons d_int (da_cons d_int da_nil))) (da_cons d_int (da_cons d_int da_nil)))) (da_cons (d_tup (da_cons d_int (da_cons d_int (da_cons d_int da_nil)))) (da_cons (d_tup (da_cons d_int (da_cons d_int (da_cons d_int (da_cons d_int da_nil))))) (da_cons (d_tup (da_cons d_non (da_cons d_int (da_cons d_int da_nil)))) (da_cons (d_tup (da_cons d_int (da_cons d_int (da_cons (d_neg d_int) da_nil)))) (da_cons (d_tup (da_cons d_int (da_cons d_int (da_cons d_bl da_nil)))) da_nil)))))))))))
    (ds_cons (ds_set (i := 2) sc.nd rfl (by first | exact Or.inl rfl | exact Or.inr rfl) (d_addA hK (d_var (pv 2)) (d_lst (da_cons (d_tup (da_cons d_bl (da_cons d_int (da_cons d_int da_nil)))) (da_cons (d_tup (da_cons d_int (da_cons d_str (da_cons d_int da_nil)))) (da_cons (d_tup (da_cons d_int (da_cons d_int (da_cons d_int da_nil)))) (da_cons (d_tup (da_cons d_int (da_cons d_int (da_cons (d_neg d_int) da_nil)))) (da_cons (d_tup (da_cons (d_lst (da_cons d_int da_nil)) (da_cons d_int (da_cons d_int da_nil)))) (da_cons (d_tup (da_cons d_int (da_cons d_int (da_cons d_non da_nil)))) (da_cons (d_neg (d_ninesB (hK ▸ t.mx) rfl t.n_int d_int)) (da_cons d_str da_nil)))))))))))
    (ds_cons (ds_if (dt_val (d_isi (T := .tuple) hK rfl t.n_isinstance rfl t.n_tuple (by decide +kernel) (d_var (pv 1))))
    (ds_one (ds_set (i := 2) sc.nd rfl (by first | exact Or.inl rfl | exact Or.inr rfl) (d_addA hK (d_var (pv 2)) (d_mulA (d_lst (da_cons (d_callTy (hK ▸ cd_list) call_list_of rfl t.n_list (by decide +kernel) (da_cons (d_var (pv 1)) da_nil)) (da_cons (d_addA hK (d_var (pv 1)) (d_tup (da_cons d_int da_nil))) (da_cons (d_slice hK (d_var (pv 1)) (do_some d_int) do_none) (da_cons (d_slice hK (d_var (pv 1)) do_none (do_some (d_neg d_int))) (da_cons (d_tup (da_cons (d_var (pv 1)) da_nil)) (da_cons (d_addA hK (d_slice hK (d_var (pv 1)) do_none (do_some d_int)) (d_tup (da_cons d_int da_nil))) (da_cons (d_addA hK (d_slice hK (d_var (pv 1)) do_none (do_some d_int)) (d_var (pv 1))) (da_cons (d_tup (da_cons (d_var (pv 1)) (da_cons (d_var (pv 1)) (da_cons (d_var (pv 1)) da_nil)))) da_nil))))))))) d_int))))
    (ds_one (ds_if (dt_val (d_isi (T := .int) hK rfl t.n_isinstance rfl t.n_int (by decide +kernel) (d_var (pv 1))))
    (ds_one (ds_set (i := 2) sc.nd rfl (by first | exact Or.inl rfl | exact Or.inr rfl) (d_addA hK (d_var (pv 2)) (d_mulA (d_lst (da_cons (d_eq hK room.r.units (d_var (pv 1)) d_int) (da_cons (d_lst (da_cons (d_var (pv 1)) da_nil)) (da_cons (d_tup (da_cons (d_var (pv 1)) da_nil)) (da_cons (d_callTy cd_str call_str_int rfl t.n_str (by decide +kernel) (da_cons (d_var (pv 1)) da_nil)) (da_cons (d_mulA (d_var (pv 1)) d_int) (da_cons (d_neg (d_var (pv 1))) (da_cons (d_sub (d_neg d_int) (d_callB cd_abs call_abs rfl t.n_abs (by decide +kernel) (da_cons (d_var (pv 1)) da_nil))) da_nil)))))))) d_int))))
    ds_nil)))
    (ds_one (ds_ret (d_call (ok__law_pick t) hK (room.mono (by decide)) rfl t.m__law_pick t.F__law_pick.kp (b__law_pick t) (da_cons (d_var (pv 0)) (da_cons (d_var (pv 2)) da_nil)))))))))
def T__law_bent (g : TF) : TDS := (dSeq (dIfS (dtOr (dtNot (dTest (dUn (gIs .tuple) (dVar 1)))) (dtOr (dTest (dBin gEq (dVar 1) (dTup dNil))) (dTest (dBin gEq (dCall 2 tf_draw (dCons (dVar 0) (dCons (dC (.int 3)) dNil))) (dC (.int 0))))))
    (dRet (dCall 2 tf__law_odd (dCons (dVar 0) (dCons (dVar 1) dNil))))
    dNext)
    (dSeq (dAsg (dCall 2 tf_draw (dCons (dVar 0) (dCons (dCB gLen (dCons (dVar 1) dNil)) dNil))) (dgName 2))
    (dRet (dBin gAddA (dBin gAddA (dSl (dVar 1) dNoPart (dPart (dVar 2))) (dTup (dCons (dCall 2 g (dCons (dVar 0) (dCons (dBin gIx (dVar 1) (dVar 2)) dNil))) dNil))) (dSl (dVar 1) (dPart (dBin gAddA (dVar 2) (dC (.int 1)))) dNoPart)))))
def tf__law_bent : Nat → TF
  | 0 => fun _ _ _ => False
  | n + 1 => fun _ ds Q => tfOf 3 (T__law_bent (tf__law_bent n)) (fun _ => False) ds Q
theorem ok__law_bent (t : Tx K mg) : ∀ n : Nat, FnG P w K mg base CX0 (4 + n) t.a__law_bent t.d__law_bent ["_law_deck_here", "_law_it"] (spD K 2 (tf__law_bent n))
  | 0 => fng_false
  | n + 1 => by
    have sc := sc__law_bent
    exact fng_data (k := 4 + n) (N := ["_law_deck_here", "_law_it", "_law_at"]) (T := T__law_bent (tf__law_bent n)) t.F__law_bent sc fun cdv A outer s H E F hK hF room =>
    (ds_cons (ds_if (PW.pt (dw_or (dt_not (dt_val (d_isi (T := .tuple) hK rfl t.n_isinstance rfl t.n_tuple (by decide +kernel) (d_var (pv 1))))) (dw_or (dt_eq hK room.r.units (d_var (pv 1)) (d_tup da_nil)) (dw_or1 (dt_eq hK room.r.units (d_call (ok__law_draw t) hK (room.mono (by omega)) rfl t.m__law_draw t.F__law_draw.kp (b__law_draw t) (da_cons (d_var (pv 0)) (da_cons d_int da_nil))) d_int)))))
    (ds_one (ds_ret (d_call (ok__law_odd t) hK (room.mono (by omega)) rfl t.m__law_odd t.F__law_odd.kp (b__law_odd t) (da_cons (d_var (pv 0)) (da_cons (d_var (pv 1)) da_nil)))))
    ds_nil)
    (ds_cons (ds_set (i := 2) sc.nd rfl (by first | exact Or.inl rfl | exact Or.inr rfl) (d_call (ok__law_draw t) hK (room.mono (by omega)) rfl t.m__law_draw t.F__law_draw.kp (b__law_draw t) (da_cons (d_var (pv 0)) (da_cons (d_callB (hK ▸ cd_len) call_len_seq rfl t.n_len (by decide +kernel) (da_cons (d_var (pv 1)) da_nil)) da_nil))))
    (ds_one (ds_ret (d_addA hK (d_addA hK (d_slice hK (d_var (pv 1)) do_none (do_some (d_var (pv 2)))) (d_tup (da_cons (d_call (ok__law_bent t n) hK (room.mono (by omega)) rfl t.m__law_bent t.F__law_bent.kp (b__law_bent t) (da_cons (d_var (pv 0)) (da_cons (d_ix hK (d_var (pv 1)) (d_var (pv 2)) (fun _ _ => rfl)) da_nil))) da_nil))) (d_slice hK (d_var (pv 1)) (do_some (d_addA hK (d_var (pv 2)) d_int)) do_none))))))
def T__law_is_golden : TDS := (dSeq (dIfS (dtOr (dtNot (dTest (dUn (gIs .tuple) (dVar 0)))) (dTest (dBin gNe (dCB gLen (dCons (dVar 0) dNil)) (dC (.int 3)))))
    (dRet (dC (.bl false)))
    dNext)
    (dRet (dAnd (dBin gEq (dLcV 0 1 (dtOr (dtNot (dTest (dUn (gIs .int) (dVar 1)))) (dTest (dUn (gIs .bool) (dVar 1)))) (dC (.int 1))) (dLst dNil)) (dBin gGt (dBin gIx (dVar 0) (dC (.int 2))) (dC (.int 0))))))
def tf__law_is_golden : TF := fun _ ds Q => tfOf 2 T__law_is_golden (fun _ => False) ds Q
theorem ok__law_is_golden (t : Tx K mg) : FnG P w K mg base CX0 1 t.a__law_is_golden t.d__law_is_golden ["_law_thing"] (spD K 1 tf__law_is_golden) := by
  have sc := sc__law_is_golden
  exact fng_data (N := ["_law_thing", "_law_it"]) (T := T__law_is_golden) t.F__law_is_golden sc fun cdv A outer s H E F hK hF room =>
    (ds_cons (ds_if (PW.pt (dw_or (dt_not (dt_val (d_isi (T := .tuple) hK rfl t.n_isinstance rfl t.n_tuple (by decide +kernel) (d_var (pv 0))))) (dw_or1 (dt_ne hK room.r.units (d_callB (hK ▸ cd_len) call_len_seq rfl t.n_len (by decide +kernel) (da_cons (d_var (pv 0)) da_nil)) d_int))))
    (ds_one (ds_ret d_bl))
    ds_nil)
    (ds_one (ds_ret (d_and (d_eq hK room.r.units (d_lcV hK rfl sc.nd (pv 0) (blkOk_by (own := [("_law_it", 1)]) (N := ["_law_thing", "_law_it"]) (sc := defScope s__law_is_golden) (by decide +kernel)) rfl (fun _ _ _ _ _ => pg_name (i := 1) sc.nd rfl (Or.inl rfl)) (fun _ _ _ _ _ => (dts_one (PW.pt (dw_or (dt_not (dt_val (d_isi (T := .int) hK rfl t.n_isinstance rfl t.n_int (by decide +kernel) (d_var (pv 1))))) (dw_or1 (dt_val (d_isi (T := .bool) hK rfl t.n_isinstance rfl t.n_bool (by decide +kernel) (d_var (pv 1))))))))) (fun _ _ _ _ _ => d_int)) (d_lst da_nil)) (d_one (d_gt (d_ix hK (d_var (pv 0)) d_int (fun _ _ => rfl)) d_int))))))
def T__law_value : TDS := (dSeq (dPar 1 2 (dCons (dCall 2 tf_draw (dCons (dVar 0) (dCons (dC (.int 5)) dNil))) (dCons (dCall 1 tf__law_golden (dCons (dVar 0) dNil)) dNil)))
    (dSeq (dIfS (dTest (dBin gEq (dVar 1) (dC (.int 0))))
    (dRet (dCall 2 tf__law_odd (dCons (dVar 0) (dCons (dVar 2) dNil))))
    dNext)
    (dRet (dIf (dTest (dBin gLt (dVar 1) (dC (.int 3)))) (dCall 2 (tf__law_bent 3) (dCons (dVar 0) (dCons (dVar 2) dNil))) (dVar 2)))))
def tf__law_value : TF := fun _ ds Q => tfOf 3 T__law_value (fun _ => False) ds Q
theorem ok__law_value (t : Tx K mg) : FnG P w K mg base CX0 8 t.a__law_value t.d__law_value ["_law_deck_here"] (spD K 1 tf__law_value) := by
  have sc := sc__law_value
  exact fng_data (N := ["_law_deck_here", "_law_way", "_law_found"]) (T := T__law_value) t.F__law_value sc fun cdv A outer s H E F hK hF room =>
    (ds_cons (ds_par (i := 1) (j := 2) rfl sc.nd rfl rfl (by decide) rfl rfl (da_cons (d_call (ok__law_draw t) hK (room.mono (by decide)) rfl t.m__law_draw t.F__law_draw.kp (b__law_draw t) (da_cons (d_var (pv 0)) (da_cons d_int da_nil))) (da_cons (d_call (ok__law_golden t) hK (room.mono (by decide)) rfl t.m__law_golden t.F__law_golden.kp (b__law_golden t) (da_cons (d_var (pv 0)) da_nil)) da_nil)))
    (ds_cons (ds_if (dt_eq hK room.r.units (d_var (pv 1)) d_int)
    (ds_one (ds_ret (d_call (ok__law_odd t) hK (room.mono (by decide)) rfl t.m__law_odd t.F__law_odd.kp (b__law_odd t) (da_cons (d_var (pv 0)) (da_cons (d_var (pv 2)) da_nil)))))
    ds_nil)
    (ds_one (ds_ret (d_if (dt_lt (d_var (pv 1)) d_int) (d_call (ok__law_bent t 3) hK (room.mono (by decide)) rfl t.m__law_bent t.F__law_bent.kp (b__law_bent t) (da_cons (d_var (pv 0)) (da_cons (d_var (pv 2)) da_nil))) (d_var (pv 2)))))))
def T__law_refused (Th : TDE) : TDS := (dSeq (dTryN [⟨mm_BadNumber, some 1, fun a y => (dSeq (dAsg (dOr (dIsX a y 1 is_DividedByZero) (dOr (dIsX a y 1 is_BadCount) (dOr (dIsX a y 1 is_BadPower) (dIsX a y 1 is_BadText)))) (dgName 2)) (dRet (dIf (dtOr (dTruI (dVar 2)) (dtNot (dTest (dIsX a y 1 is_FloorError)))) (dTup (dCons (dC (.str "both")) (dCons (dC .non) dNil))) (dTup (dCons (dC (.str "number")) (dCons (dXf a y 1 "thing") dNil))))))⟩,
      ⟨mm_DividedByZero, some 1, fun a y => (dRet (dTup (dCons (dC (.str "zero")) (dCons (dIsX a y 1 is_FloorError) dNil))))⟩,
      ⟨mm_FloorError, none, fun a y => (dRet (dTup (dCons (dC (.str "other")) (dCons (dC .non) dNil))))⟩]
    (dDrop Th))
    (dRet (dC .non)))
theorem told__law_refused (t : Tx K mg) (cdv : Value) (A : Around) (outer : List Env) (s : Shared) (H : Hp) (F2 : FP) (Th : TDE) (hK : F2.K = K) (hF : F2.ex = fun _ _ => False)
    (hole : ∀ (W : WX) (pn : List (Addr × Obj)) (xe : Value → Shared → Prop) (F' : FP) (p1 p2 : Pos), Takes ((cxOf CX0 P w K mg base ["_law_call", "e", "_law_is_other"] "_law_refused" (defScope s__law_refused) t.a__law_refused cdv A outer s H E0).tr pn xe) W → Sub F2 F' → WOk F' W →
      PE ((cxOf CX0 P w K mg base ["_law_call", "e", "_law_is_other"] "_law_refused" (defScope s__law_refused) t.a__law_refused cdv A outer s H E0).tr pn xe) (.Call (.Name "_law_call" p1) [] [] p2) (tD F' Th)) :
    PSs (cxOf CX0 P w K mg base ["_law_call", "e", "_law_is_other"] "_law_refused" (defScope s__law_refused) t.a__law_refused cdv A outer s H E0).nox (defBody s__law_refused) (sD F2 (T__law_refused Th)) := by
  have sc := sc__law_refused
  exact (ds_cons (ds_tryN hK rfl rfl sc.nd takes_none5 (wok_none hF) (fun W pn xe F' tk' po' sub' wo' => have hK := sub'.k.trans hK
    (ds_one (ds_expr (hole W pn xe F' _ _ tk' sub' wo'))))
    (.named (i := 1) (cl := ⟨mm_BadNumber, some 1, fun a y => (dSeq (dAsg (dOr (dIsX a y 1 is_DividedByZero) (dOr (dIsX a y 1 is_BadCount) (dOr (dIsX a y 1 is_BadPower) (dIsX a y 1 is_BadText)))) (dgName 2)) (dRet (dIf (dtOr (dTruI (dVar 2)) (dtNot (dTest (dIsX a y 1 is_FloorError)))) (dTup (dCons (dC (.str "both")) (dCons (dC .non) dNil))) (dTup (dCons (dC (.str "number")) (dCons (dXf a y 1 "thing") dNil))))))⟩) rfl rfl ⟨rfl, by decide, .inl t.R_BadNumber.2⟩ rfl (hm_BadNumber t) (fun a oe cls d pn y F' hz hv S => have hKo := hK; have hK := S.k.trans hK; (by (dsimp only; refine ds_cons ?_ ?_; exact (ds_set (i := 2) sc.nd rfl (by first | exact Or.inl rfl | exact Or.inr rfl) (d_or (d_isX hKo S hz hv (es_BadNumber t S.m) (pv 1) (kt_DividedByZero t _) (by rfl) t.n_isinstance (by rfl) t.R_DividedByZero.2) (d_or (d_isX hKo S hz hv (es_BadNumber t S.m) (pv 1) (kt_BadCount t _) (by rfl) t.n_isinstance (by rfl) t.R_BadCount.2) (d_or (d_isX hKo S hz hv (es_BadNumber t S.m) (pv 1) (kt_BadPower t _) (by rfl) t.n_isinstance (by rfl) t.R_BadPower.2) (d_one (d_isX hKo S hz hv (es_BadNumber t S.m) (pv 1) (kt_BadText t _) (by rfl) t.n_isinstance (by rfl) t.R_BadText.2)))))); exact (by exact (ds_one (ds_ret (d_if (PW.pt (dw_or (dt_tru (d_var (pv 2))) (dw_or1 (dt_not (dt_val (d_isX hKo S hz hv (es_BadNumber t S.m) (pv 1) (kt_FloorError t _) (by rfl) t.n_isinstance (by rfl) t.R_FloorError.2)))))) (d_tup (da_cons d_str (da_cons d_non da_nil))) (d_tup (da_cons d_str (da_cons (d_xf hKo S hz hv (xf_BadNumber t S.m) (pv 1)) da_nil))))))))))
    (.named (i := 1) (cl := ⟨mm_DividedByZero, some 1, fun a y => (dRet (dTup (dCons (dC (.str "zero")) (dCons (dIsX a y 1 is_FloorError) dNil))))⟩) rfl rfl ⟨rfl, by decide, .inl t.R_DividedByZero.2⟩ rfl (hm_DividedByZero t) (fun a oe cls d pn y F' hz hv S => have hKo := hK; have hK := S.k.trans hK; (ds_one (ds_ret (d_tup (da_cons d_str (da_cons (d_isX hKo S hz hv (es_DividedByZero t S.m) (pv 1) (kt_FloorError t _) (by rfl) t.n_isinstance (by rfl) t.R_FloorError.2) da_nil))))))
    (.one (cl := ⟨mm_FloorError, none, fun a y => (dRet (dTup (dCons (dC (.str "other")) (dCons (dC .non) dNil))))⟩) ⟨rfl, by decide, .inl t.R_FloorError.2⟩ rfl (hm_FloorError t) (fun a oe cls d pn y F' hz hv S => have hKo := hK; have hK := S.k.trans hK; (ds_one (ds_ret (d_tup (da_cons d_str (da_cons d_non da_nil)))))) .nil))))
    (ds_one (ds_ret d_non)))
theorem kb_are_equal_other_one (t : Tx K mg) : KB t.d_are_equal ["one", "other"] ["other", "one"] [1, 0] := kb_of t.F_are_equal fun _ _ _ _ _ _ ws hl => match ws, hl with | [_, _], _ => rfl
theorem kb_is_below_other_one (t : Tx K mg) : KB t.d_is_below ["one", "other"] ["other", "one"] [1, 0] := kb_of t.F_is_below fun _ _ _ _ _ _ ws hl => match ws, hl with | [_, _], _ => rfl
theorem kb_minus_other_one (t : Tx K mg) : KB t.d_minus ["one", "other"] ["other", "one"] [1, 0] := kb_of t.F_minus fun _ _ _ _ _ _ ws hl => match ws, hl with | [_, _], _ => rfl
theorem kb_plus_other_one (t : Tx K mg) : KB t.d_plus ["one", "other"] ["other", "one"] [1, 0] := kb_of t.F_plus fun _ _ _ _ _ _ ws hl => match ws, hl with | [_, _], _ => rfl
theorem kb_quotient_other_one (t : Tx K mg) : KB t.d_quotient ["one", "other"] ["other", "one"] [1, 0] := kb_of t.F_quotient fun _ _ _ _ _ _ ws hl => match ws, hl with | [_, _], _ => rfl
theorem kb_times_other_one (t : Tx K mg) : KB t.d_times ["one", "other"] ["other", "one"] [1, 0] := kb_of t.F_times fun _ _ _ _ _ _ ws hl => match ws, hl with | [_, _], _ => rfl
def T__law_two_right : TDS := (dSeq (dAsg (dTup (dCons (dC .non) (dCons (dC .non) dNil))) (dgTup 2 (dgCons (dgName 2) (dgCons (dgName 3) dgNil))))
    (dSeq (dIfS (dtNot (dTest (dCall 1 tf__law_is_golden (dCons (dVar 0) dNil))))
    (dAsg (dTup (dCons (dC (.str "number")) (dCons (dVar 0) dNil))) (dgName 2))
    (dIfS (dtNot (dTest (dCall 1 tf__law_is_golden (dCons (dVar 1) dNil))))
    (dAsg (dTup (dCons (dC (.str "number")) (dCons (dVar 1) dNil))) (dgName 2))
    (dIfS (dtAnd (dTest (dBin gEq (dBin gIx (dVar 1) (dC (.int 0))) (dC (.int 0)))) (dTest (dBin gEq (dBin gIx (dVar 1) (dC (.int 1))) (dC (.int 0)))))
    (dAsg (dTup (dCons (dC (.str "zero")) (dCons (dC (.bl true)) dNil))) (dgName 3))
    dNext)))
    (dSeq (dOwn (lLst (dCons (dLam 3 T__law_refused (dCallX 2 tf_plus (dCons (dVar 0) (dCons (dVar 1) dNil)))) dNil)) 4)
    (dSeq (dApp 4 (dLam 3 T__law_refused (dCallX 2 tf_minus (dCons (dVar 0) (dCons (dVar 1) dNil)))))
    (dSeq (dApp 4 (dLam 3 T__law_refused (dCallX 2 tf_times (dCons (dVar 0) (dCons (dVar 1) dNil)))))
    (dSeq (dApp 4 (dLam 3 T__law_refused (dCallX 2 tf_is_below (dCons (dVar 0) (dCons (dVar 1) dNil)))))
    (dSeq (dApp 4 (dLam 3 T__law_refused (dCallX 2 tf_are_equal (dCons (dVar 0) (dCons (dVar 1) dNil)))))
    (dSeq (dApp 4 (dLam 3 T__law_refused (dCallKX 2 2 [1, 0] tf_plus (dCons (dVar 1) (dCons (dVar 0) dNil)))))
    (dSeq (dApp 4 (dLam 3 T__law_refused (dCallKX 2 2 [1, 0] tf_minus (dCons (dVar 1) (dCons (dVar 0) dNil)))))
    (dSeq (dApp 4 (dLam 3 T__law_refused (dCallKX 2 2 [1, 0] tf_times (dCons (dVar 1) (dCons (dVar 0) dNil)))))
    (dSeq (dApp 4 (dLam 3 T__law_refused (dCallKX 2 2 [1, 0] tf_is_below (dCons (dVar 1) (dCons (dVar 0) dNil)))))
    (dSeq (dApp 4 (dLam 3 T__law_refused (dCallKX 2 2 [1, 0] tf_are_equal (dCons (dVar 1) (dCons (dVar 0) dNil)))))
    (dFreeze 4 (dSeq (dOwn (lLst (dCons (dLam 3 T__law_refused (dCallX 2 tf_quotient (dCons (dVar 0) (dCons (dVar 1) dNil)))) dNil)) 5)
    (dSeq (dApp 5 (dLam 3 T__law_refused (dCallKX 2 2 [1, 0] tf_quotient (dCons (dVar 1) (dCons (dVar 0) dNil)))))
    (dFreeze 5 (dRet (dAnd (dCall 2 tf__law_same (dCons (dVar 4) (dCons (dBin gMulA (dLst (dCons (dVar 2) dNil)) (dC (.int 10))) dNil))) (dCall 2 tf__law_same (dCons (dVar 5) (dCons (dBin gMulA (dLst (dCons (dIf (dTest (dBin gNotN (dVar 2) (dC .non))) (dVar 2) (dVar 3)) dNil)) (dC (.int 2))) dNil)))))))))))))))))))))
def tf__law_two_right : TF := fun _ ds Q => tfOf 6 T__law_two_right (fun _ => False) ds Q
theorem ok__law_two_right (t : Tx K mg) (tb : TBs K mg base TN) : FnG P w K mg base CX0 8 t.a__law_two_right t.d__law_two_right ["_law_p", "_law_q"] (spD K 2 tf__law_two_right) := by
  have sc := sc__law_two_right
  exact fng_dataC (n := "_law_two_right") (N := ["_law_p", "_law_q", "_law_due", "_law_last", "_law_told", "_law_far"]) (T := T__law_two_right) t.F__law_two_right sc t.E__law_two_right fun cdv A outer s H E F hK hF room hcd =>
    (ds_cons (ds_asg (d_tup (da_cons d_non (da_cons d_non da_nil))) (dg_tup hK rfl (dgs_cons (dg_name (pg_name (i := 2) sc.nd rfl (by first | exact Or.inl rfl | exact Or.inr rfl))) (dgs_cons (dg_name (pg_name (i := 3) sc.nd rfl (by first | exact Or.inl rfl | exact Or.inr rfl))) dgs_nil))))
    (ds_cons (ds_if (dt_not (dt_val (d_call (ok__law_is_golden t) hK (room.mono (by decide)) rfl t.m__law_is_golden t.F__law_is_golden.kp (b__law_is_golden t) (da_cons (d_var (pv 0)) da_nil))))
    (ds_one (ds_set (i := 2) sc.nd rfl (by first | exact Or.inl rfl | exact Or.inr rfl) (d_tup (da_cons d_str (da_cons (d_var (pv 0)) da_nil)))))
    (ds_one (ds_if (dt_not (dt_val (d_call (ok__law_is_golden t) hK (room.mono (by decide)) rfl t.m__law_is_golden t.F__law_is_golden.kp (b__law_is_golden t) (da_cons (d_var (pv 1)) da_nil))))
    (ds_one (ds_set (i := 2) sc.nd rfl (by first | exact Or.inl rfl | exact Or.inr rfl) (d_tup (da_cons d_str (da_cons (d_var (pv 1)) da_nil)))))
    (ds_one (ds_if (PW.pt (dw_and (dt_eq hK room.r.units (d_ix hK (d_var (pv 1)) d_int (fun _ _ => rfl)) d_int) (dw_and1 (dt_eq hK room.r.units (d_ix hK (d_var (pv 1)) d_int (fun _ _ => rfl)) d_int))))
    (ds_one (ds_set (i := 3) sc.nd rfl (by first | exact Or.inl rfl | exact Or.inr rfl) (d_tup (da_cons d_str (da_cons d_bl da_nil)))))
    ds_nil)))))
    (ds_cons (ds_own (i := 4) sc.nd rfl (by first | exact Or.inl rfl | exact Or.inr rfl) (l_lst (da_cons (d_lam (k := 4) hK (by rfl) t.m__law_refused t.F__law_refused.kp t.F__law_refused (b__law_refused t) sc__law_refused rfl (.inl rfl) (fun cdv s H F2 Th hK hF room hole => told__law_refused t cdv _ _ s H F2 Th hK hF hole) (tb "_law_two_right" (by decide)) hcd t.T__law_two_right.mem t.T__law_two_right.uni (room.mono (by decide)) (LamX.lamS_by (sc := defScope s__law_two_right) (by decide +kernel)) (by rfl) (fun _ _ _ _ _ => rfl)
      (fun A outer s H E f c' F' hK wo' room => (d_callX (ok_plus t) takes_lam wo' hK (room.mono (by decide)) rfl t.m_plus t.F_plus.kp (b_plus t) (da_cons (d_var (pv 0)) (da_cons (d_var (pv 1)) da_nil))))) da_nil)))
    (ds_cons (ds_app hK (pv 4) (d_lam (k := 4) hK (by rfl) t.m__law_refused t.F__law_refused.kp t.F__law_refused (b__law_refused t) sc__law_refused rfl (.inl rfl) (fun cdv s H F2 Th hK hF room hole => told__law_refused t cdv _ _ s H F2 Th hK hF hole) (tb "_law_two_right" (by decide)) hcd t.T__law_two_right.mem t.T__law_two_right.uni (room.mono (by decide)) (LamX.lamS_by (sc := defScope s__law_two_right) (by decide +kernel)) (by rfl) (fun _ _ _ _ _ => rfl)
      (fun A outer s H E f c' F' hK wo' room => (d_callX (ok_minus t) takes_lam wo' hK (room.mono (by decide)) rfl t.m_minus t.F_minus.kp (b_minus t) (da_cons (d_var (pv 0)) (da_cons (d_var (pv 1)) da_nil))))))
    (ds_cons (ds_app hK (pv 4) (d_lam (k := 4) hK (by rfl) t.m__law_refused t.F__law_refused.kp t.F__law_refused (b__law_refused t) sc__law_refused rfl (.inl rfl) (fun cdv s H F2 Th hK hF room hole => told__law_refused t cdv _ _ s H F2 Th hK hF hole) (tb "_law_two_right" (by decide)) hcd t.T__law_two_right.mem t.T__law_two_right.uni (room.mono (by decide)) (LamX.lamS_by (sc := defScope s__law_two_right) (by decide +kernel)) (by rfl) (fun _ _ _ _ _ => rfl)
      (fun A outer s H E f c' F' hK wo' room => (d_callX (ok_times t) takes_lam wo' hK (room.mono (by decide)) rfl t.m_times t.F_times.kp (b_times t) (da_cons (d_var (pv 0)) (da_cons (d_var (pv 1)) da_nil))))))
    (ds_cons (ds_app hK (pv 4) (d_lam (k := 5) hK (by rfl) t.m__law_refused t.F__law_refused.kp t.F__law_refused (b__law_refused t) sc__law_refused rfl (.inl rfl) (fun cdv s H F2 Th hK hF room hole => told__law_refused t cdv _ _ s H F2 Th hK hF hole) (tb "_law_two_right" (by decide)) hcd t.T__law_two_right.mem t.T__law_two_right.uni (room.mono (by decide)) (LamX.lamS_by (sc := defScope s__law_two_right) (by decide +kernel)) (by rfl) (fun _ _ _ _ _ => rfl)
      (fun A outer s H E f c' F' hK wo' room => (d_callX (ok_is_below t) takes_lam wo' hK (room.mono (by decide)) rfl t.m_is_below t.F_is_below.kp (b_is_below t) (da_cons (d_var (pv 0)) (da_cons (d_var (pv 1)) da_nil))))))
    (ds_cons (ds_app hK (pv 4) (d_lam (k := 5) hK (by rfl) t.m__law_refused t.F__law_refused.kp t.F__law_refused (b__law_refused t) sc__law_refused rfl (.inl rfl) (fun cdv s H F2 Th hK hF room hole => told__law_refused t cdv _ _ s H F2 Th hK hF hole) (tb "_law_two_right" (by decide)) hcd t.T__law_two_right.mem t.T__law_two_right.uni (room.mono (by decide)) (LamX.lamS_by (sc := defScope s__law_two_right) (by decide +kernel)) (by rfl) (fun _ _ _ _ _ => rfl)
      (fun A outer s H E f c' F' hK wo' room => (d_callX (ok_are_equal t) takes_lam wo' hK (room.mono (by decide)) rfl t.m_are_equal t.F_are_equal.kp (b_are_equal t) (da_cons (d_var (pv 0)) (da_cons (d_var (pv 1)) da_nil))))))
    (ds_cons (ds_app hK (pv 4) (d_lam (k := 4) hK (by rfl) t.m__law_refused t.F__law_refused.kp t.F__law_refused (b__law_refused t) sc__law_refused rfl (.inl rfl) (fun cdv s H F2 Th hK hF room hole => told__law_refused t cdv _ _ s H F2 Th hK hF hole) (tb "_law_two_right" (by decide)) hcd t.T__law_two_right.mem t.T__law_two_right.uni (room.mono (by decide)) (LamX.lamS_by (sc := defScope s__law_two_right) (by decide +kernel)) (by rfl) (fun _ _ _ _ _ => rfl)
      (fun A outer s H E f c' F' hK wo' room => (d_callKX (ok_plus t) takes_lam wo' hK (room.mono (by decide)) rfl t.m_plus t.F_plus.kp (kb_plus_other_one t) (dk_cons (d_var (pv 1)) (dk_cons (d_var (pv 0)) dk_nil))))))
    (ds_cons (ds_app hK (pv 4) (d_lam (k := 4) hK (by rfl) t.m__law_refused t.F__law_refused.kp t.F__law_refused (b__law_refused t) sc__law_refused rfl (.inl rfl) (fun cdv s H F2 Th hK hF room hole => told__law_refused t cdv _ _ s H F2 Th hK hF hole) (tb "_law_two_right" (by decide)) hcd t.T__law_two_right.mem t.T__law_two_right.uni (room.mono (by decide)) (LamX.lamS_by (sc := defScope s__law_two_right) (by decide +kernel)) (by rfl) (fun _ _ _ _ _ => rfl)
      (fun A outer s H E f c' F' hK wo' room => (d_callKX (ok_minus t) takes_lam wo' hK (room.mono (by decide)) rfl t.m_minus t.F_minus.kp (kb_minus_other_one t) (dk_cons (d_var (pv 1)) (dk_cons (d_var (pv 0)) dk_nil))))))
    (ds_cons (ds_app hK (pv 4) (d_lam (k := 4) hK (by rfl) t.m__law_refused t.F__law_refused.kp t.F__law_refused (b__law_refused t) sc__law_refused rfl (.inl rfl) (fun cdv s H F2 Th hK hF room hole => told__law_refused t cdv _ _ s H F2 Th hK hF hole) (tb "_law_two_right" (by decide)) hcd t.T__law_two_right.mem t.T__law_two_right.uni (room.mono (by decide)) (LamX.lamS_by (sc := defScope s__law_two_right) (by decide +kernel)) (by rfl) (fun _ _ _ _ _ => rfl)
      (fun A outer s H E f c' F' hK wo' room => (d_callKX (ok_times t) takes_lam wo' hK (room.mono (by decide)) rfl t.m_times t.F_times.kp (kb_times_other_one t) (dk_cons (d_var (pv 1)) (dk_cons (d_var (pv 0)) dk_nil))))))
    (ds_cons (ds_app hK (pv 4) (d_lam (k := 5) hK (by rfl) t.m__law_refused t.F__law_refused.kp t.F__law_refused (b__law_refused t) sc__law_refused rfl (.inl rfl) (fun cdv s H F2 Th hK hF room hole => told__law_refused t cdv _ _ s H F2 Th hK hF hole) (tb "_law_two_right" (by decide)) hcd t.T__law_two_right.mem t.T__law_two_right.uni (room.mono (by decide)) (LamX.lamS_by (sc := defScope s__law_two_right) (by decide +kernel)) (by rfl) (fun _ _ _ _ _ => rfl)
      (fun A outer s H E f c' F' hK wo' room => (d_callKX (ok_is_below t) takes_lam wo' hK (room.mono (by decide)) rfl t.m_is_below t.F_is_below.kp (kb_is_below_other_one t) (dk_cons (d_var (pv 1)) (dk_cons (d_var (pv 0)) dk_nil))))))
    (ds_cons (ds_app hK (pv 4) (d_lam (k := 5) hK (by rfl) t.m__law_refused t.F__law_refused.kp t.F__law_refused (b__law_refused t) sc__law_refused rfl (.inl rfl) (fun cdv s H F2 Th hK hF room hole => told__law_refused t cdv _ _ s H F2 Th hK hF hole) (tb "_law_two_right" (by decide)) hcd t.T__law_two_right.mem t.T__law_two_right.uni (room.mono (by decide)) (LamX.lamS_by (sc := defScope s__law_two_right) (by decide +kernel)) (by rfl) (fun _ _ _ _ _ => rfl)
      (fun A outer s H E f c' F' hK wo' room => (d_callKX (ok_are_equal t) takes_lam wo' hK (room.mono (by decide)) rfl t.m_are_equal t.F_are_equal.kp (kb_are_equal_other_one t) (dk_cons (d_var (pv 1)) (dk_cons (d_var (pv 0)) dk_nil))))))
    (dss_freeze (i := 4) (ds_cons (ds_own (i := 5) sc.nd rfl (by first | exact Or.inl rfl | exact Or.inr rfl) (l_lst (da_cons (d_lam (k := 4) hK (by rfl) t.m__law_refused t.F__law_refused.kp t.F__law_refused (b__law_refused t) sc__law_refused rfl (.inl rfl) (fun cdv s H F2 Th hK hF room hole => told__law_refused t cdv _ _ s H F2 Th hK hF hole) (tb "_law_two_right" (by decide)) hcd t.T__law_two_right.mem t.T__law_two_right.uni (room.mono (by decide)) (LamX.lamS_by (sc := defScope s__law_two_right) (by decide +kernel)) (by rfl) (fun _ _ _ _ _ => rfl)
      (fun A outer s H E f c' F' hK wo' room => (d_callX (ok_quotient t) takes_lam wo' hK (room.mono (by decide)) rfl t.m_quotient t.F_quotient.kp (b_quotient t) (da_cons (d_var (pv 0)) (da_cons (d_var (pv 1)) da_nil))))) da_nil)))
    (ds_cons (ds_app hK (pv 5) (d_lam (k := 4) hK (by rfl) t.m__law_refused t.F__law_refused.kp t.F__law_refused (b__law_refused t) sc__law_refused rfl (.inl rfl) (fun cdv s H F2 Th hK hF room hole => told__law_refused t cdv _ _ s H F2 Th hK hF hole) (tb "_law_two_right" (by decide)) hcd t.T__law_two_right.mem t.T__law_two_right.uni (room.mono (by decide)) (LamX.lamS_by (sc := defScope s__law_two_right) (by decide +kernel)) (by rfl) (fun _ _ _ _ _ => rfl)
      (fun A outer s H E f c' F' hK wo' room => (d_callKX (ok_quotient t) takes_lam wo' hK (room.mono (by decide)) rfl t.m_quotient t.F_quotient.kp (kb_quotient_other_one t) (dk_cons (d_var (pv 1)) (dk_cons (d_var (pv 0)) dk_nil))))))
    (dss_freeze (i := 5) (ds_one (ds_ret (d_and (d_call (ok__law_same t) hK (room.mono (by decide)) rfl t.m__law_same t.F__law_same.kp (b__law_same t) (da_cons (d_var (pv 4)) (da_cons (d_mulA (d_lst (da_cons (d_var (pv 2)) da_nil)) d_int) da_nil))) (d_one (d_call (ok__law_same t) hK (room.mono (by decide)) rfl t.m__law_same t.F__law_same.kp (b__law_same t) (da_cons (d_var (pv 5)) (da_cons (d_mulA (d_lst (da_cons (d_if (dt_notN (d_var (pv 2)) d_non) (d_var (pv 2)) (d_var (pv 3))) da_nil)) d_int) da_nil)))))))))))))))))))))))
theorem kb_conjugate_number (t : Tx K mg) : KB t.d_conjugate ["number"] ["number"] [0] := kb_of t.F_conjugate fun _ _ _ _ _ _ ws hl => match ws, hl with | [_], _ => rfl
theorem kb_integer_above_number (t : Tx K mg) : KB t.d_integer_above ["number"] ["number"] [0] := kb_of t.F_integer_above fun _ _ _ _ _ _ ws hl => match ws, hl with | [_], _ => rfl
theorem kb_integer_below_number (t : Tx K mg) : KB t.d_integer_below ["number"] ["number"] [0] := kb_of t.F_integer_below fun _ _ _ _ _ _ ws hl => match ws, hl with | [_], _ => rfl
theorem kb_is_golden_thing (t : Tx K mg) : KB t.d_is_golden ["thing"] ["thing"] [0] := kb_of t.F_is_golden fun _ _ _ _ _ _ ws hl => match ws, hl with | [_], _ => rfl
theorem kb_is_whole_number (t : Tx K mg) : KB t.d_is_whole ["number"] ["number"] [0] := kb_of t.F_is_whole fun _ _ _ _ _ _ ws hl => match ws, hl with | [_], _ => rfl
theorem kb_number_text_number (t : Tx K mg) : KB t.d_number_text ["number"] ["number"] [0] := kb_of t.F_number_text fun _ _ _ _ _ _ ws hl => match ws, hl with | [_], _ => rfl
theorem kb_reduced_number (t : Tx K mg) : KB t.d_reduced ["number"] ["number"] [0] := kb_of t.F_reduced fun _ _ _ _ _ _ ws hl => match ws, hl with | [_], _ => rfl
theorem kb_sign_number (t : Tx K mg) : KB t.d_sign ["number"] ["number"] [0] := kb_of t.F_sign fun _ _ _ _ _ _ ws hl => match ws, hl with | [_], _ => rfl
def T__law_one_right : TDS := (dSeq (dAsg (dIf (dTest (dCall 1 tf__law_is_golden (dCons (dVar 0) dNil))) (dC .non) (dTup (dCons (dC (.str "number")) (dCons (dVar 0) dNil)))) (dgName 1))
    (dSeq (dOwn (lLst (dCons (dLam 3 T__law_refused (dCallX 1 tf_reduced (dCons (dVar 0) dNil))) dNil)) 2)
    (dSeq (dApp 2 (dLam 3 T__law_refused (dCallX 1 tf_sign (dCons (dVar 0) dNil))))
    (dSeq (dApp 2 (dLam 3 T__law_refused (dCallX 1 tf_integer_below (dCons (dVar 0) dNil))))
    (dSeq (dApp 2 (dLam 3 T__law_refused (dCallX 1 tf_integer_above (dCons (dVar 0) dNil))))
    (dSeq (dApp 2 (dLam 3 T__law_refused (dCallX 1 tf_is_whole (dCons (dVar 0) dNil))))
    (dSeq (dApp 2 (dLam 3 T__law_refused (dCallX 1 tf_conjugate (dCons (dVar 0) dNil))))
    (dSeq (dApp 2 (dLam 3 T__law_refused (dCallX 1 tf_number_text (dCons (dVar 0) dNil))))
    (dSeq (dApp 2 (dLam 3 T__law_refused (dCallKX 1 1 [0] tf_reduced (dCons (dVar 0) dNil))))
    (dSeq (dApp 2 (dLam 3 T__law_refused (dCallKX 1 1 [0] tf_sign (dCons (dVar 0) dNil))))
    (dSeq (dApp 2 (dLam 3 T__law_refused (dCallKX 1 1 [0] tf_integer_below (dCons (dVar 0) dNil))))
    (dSeq (dApp 2 (dLam 3 T__law_refused (dCallKX 1 1 [0] tf_integer_above (dCons (dVar 0) dNil))))
    (dSeq (dApp 2 (dLam 3 T__law_refused (dCallKX 1 1 [0] tf_is_whole (dCons (dVar 0) dNil))))
    (dSeq (dApp 2 (dLam 3 T__law_refused (dCallKX 1 1 [0] tf_conjugate (dCons (dVar 0) dNil))))
    (dSeq (dApp 2 (dLam 3 T__law_refused (dCallKX 1 1 [0] tf_number_text (dCons (dVar 0) dNil))))
    (dFreeze 2 (dRet (dAnd (dCall 2 tf__law_same (dCons (dVar 2) (dCons (dBin gMulA (dLst (dCons (dVar 1) dNil)) (dC (.int 14))) dNil))) (dCall 2 tf__law_same (dCons (dTup (dCons (dCall 1 tf_is_golden (dCons (dVar 0) dNil)) (dCons (dCallK 1 1 [0] tf_is_golden (dCons (dVar 0) dNil)) dNil))) (dCons (dTup (dCons (dBin gIsN (dVar 1) (dC .non)) (dCons (dBin gIsN (dVar 1) (dC .non)) dNil))) dNil)))))))))))))))))))))
def tf__law_one_right : TF := fun _ ds Q => tfOf 3 T__law_one_right (fun _ => False) ds Q
theorem ok__law_one_right (t : Tx K mg) (tb : TBs K mg base TN) : FnG P w K mg base CX0 8 t.a__law_one_right t.d__law_one_right ["_law_p"] (spD K 1 tf__law_one_right) := by
  have sc := sc__law_one_right
  exact fng_dataC (n := "_law_one_right") (N := ["_law_p", "_law_due", "_law_told"]) (T := T__law_one_right) t.F__law_one_right sc t.E__law_one_right fun cdv A outer s H E F hK hF room hcd =>
    (ds_cons (ds_set (i := 1) sc.nd rfl (by first | exact Or.inl rfl | exact Or.inr rfl) (d_if (dt_val (d_call (ok__law_is_golden t) hK (room.mono (by decide)) rfl t.m__law_is_golden t.F__law_is_golden.kp (b__law_is_golden t) (da_cons (d_var (pv 0)) da_nil))) d_non (d_tup (da_cons d_str (da_cons (d_var (pv 0)) da_nil)))))
    (ds_cons (ds_own (i := 2) sc.nd rfl (by first | exact Or.inl rfl | exact Or.inr rfl) (l_lst (da_cons (d_lam (k := 4) hK (by rfl) t.m__law_refused t.F__law_refused.kp t.F__law_refused (b__law_refused t) sc__law_refused rfl (.inl rfl) (fun cdv s H F2 Th hK hF room hole => told__law_refused t cdv _ _ s H F2 Th hK hF hole) (tb "_law_one_right" (by decide)) hcd t.T__law_one_right.mem t.T__law_one_right.uni (room.mono (by decide)) (LamX.lamS_by (sc := defScope s__law_one_right) (by decide +kernel)) (by rfl) (fun _ _ _ _ _ => rfl)
      (fun A outer s H E f c' F' hK wo' room => (d_callX (ok_reduced t) takes_lam wo' hK (room.mono (by decide)) rfl t.m_reduced t.F_reduced.kp (b_reduced t) (da_cons (d_var (pv 0)) da_nil)))) da_nil)))
    (ds_cons (ds_app hK (pv 2) (d_lam (k := 4) hK (by rfl) t.m__law_refused t.F__law_refused.kp t.F__law_refused (b__law_refused t) sc__law_refused rfl (.inl rfl) (fun cdv s H F2 Th hK hF room hole => told__law_refused t cdv _ _ s H F2 Th hK hF hole) (tb "_law_one_right" (by decide)) hcd t.T__law_one_right.mem t.T__law_one_right.uni (room.mono (by decide)) (LamX.lamS_by (sc := defScope s__law_one_right) (by decide +kernel)) (by rfl) (fun _ _ _ _ _ => rfl)
      (fun A outer s H E f c' F' hK wo' room => (d_callX (ok_sign t) takes_lam wo' hK (room.mono (by decide)) rfl t.m_sign t.F_sign.kp (b_sign t) (da_cons (d_var (pv 0)) da_nil)))))
    (ds_cons (ds_app hK (pv 2) (d_lam (k := 4) hK (by rfl) t.m__law_refused t.F__law_refused.kp t.F__law_refused (b__law_refused t) sc__law_refused rfl (.inl rfl) (fun cdv s H F2 Th hK hF room hole => told__law_refused t cdv _ _ s H F2 Th hK hF hole) (tb "_law_one_right" (by decide)) hcd t.T__law_one_right.mem t.T__law_one_right.uni (room.mono (by decide)) (LamX.lamS_by (sc := defScope s__law_one_right) (by decide +kernel)) (by rfl) (fun _ _ _ _ _ => rfl)
      (fun A outer s H E f c' F' hK wo' room => (d_callX (ok_integer_below t) takes_lam wo' hK (room.mono (by decide)) rfl t.m_integer_below t.F_integer_below.kp (b_integer_below t) (da_cons (d_var (pv 0)) da_nil)))))
    (ds_cons (ds_app hK (pv 2) (d_lam (k := 5) hK (by rfl) t.m__law_refused t.F__law_refused.kp t.F__law_refused (b__law_refused t) sc__law_refused rfl (.inl rfl) (fun cdv s H F2 Th hK hF room hole => told__law_refused t cdv _ _ s H F2 Th hK hF hole) (tb "_law_one_right" (by decide)) hcd t.T__law_one_right.mem t.T__law_one_right.uni (room.mono (by decide)) (LamX.lamS_by (sc := defScope s__law_one_right) (by decide +kernel)) (by rfl) (fun _ _ _ _ _ => rfl)
      (fun A outer s H E f c' F' hK wo' room => (d_callX (ok_integer_above t) takes_lam wo' hK (room.mono (by decide)) rfl t.m_integer_above t.F_integer_above.kp (b_integer_above t) (da_cons (d_var (pv 0)) da_nil)))))
    (ds_cons (ds_app hK (pv 2) (d_lam (k := 4) hK (by rfl) t.m__law_refused t.F__law_refused.kp t.F__law_refused (b__law_refused t) sc__law_refused rfl (.inl rfl) (fun cdv s H F2 Th hK hF room hole => told__law_refused t cdv _ _ s H F2 Th hK hF hole) (tb "_law_one_right" (by decide)) hcd t.T__law_one_right.mem t.T__law_one_right.uni (room.mono (by decide)) (LamX.lamS_by (sc := defScope s__law_one_right) (by decide +kernel)) (by rfl) (fun _ _ _ _ _ => rfl)
      (fun A outer s H E f c' F' hK wo' room => (d_callX (ok_is_whole t) takes_lam wo' hK (room.mono (by decide)) rfl t.m_is_whole t.F_is_whole.kp (b_is_whole t) (da_cons (d_var (pv 0)) da_nil)))))
    (ds_cons (ds_app hK (pv 2) (d_lam (k := 4) hK (by rfl) t.m__law_refused t.F__law_refused.kp t.F__law_refused (b__law_refused t) sc__law_refused rfl (.inl rfl) (fun cdv s H F2 Th hK hF room hole => told__law_refused t cdv _ _ s H F2 Th hK hF hole) (tb "_law_one_right" (by decide)) hcd t.T__law_one_right.mem t.T__law_one_right.uni (room.mono (by decide)) (LamX.lamS_by (sc := defScope s__law_one_right) (by decide +kernel)) (by rfl) (fun _ _ _ _ _ => rfl)
      (fun A outer s H E f c' F' hK wo' room => (d_callX (ok_conjugate t) takes_lam wo' hK (room.mono (by decide)) rfl t.m_conjugate t.F_conjugate.kp (b_conjugate t) (da_cons (d_var (pv 0)) da_nil)))))
    (ds_cons (ds_app hK (pv 2) (d_lam (k := 5) hK (by rfl) t.m__law_refused t.F__law_refused.kp t.F__law_refused (b__law_refused t) sc__law_refused rfl (.inl rfl) (fun cdv s H F2 Th hK hF room hole => told__law_refused t cdv _ _ s H F2 Th hK hF hole) (tb "_law_one_right" (by decide)) hcd t.T__law_one_right.mem t.T__law_one_right.uni (room.mono (by decide)) (LamX.lamS_by (sc := defScope s__law_one_right) (by decide +kernel)) (by rfl) (fun _ _ _ _ _ => rfl)
      (fun A outer s H E f c' F' hK wo' room => (d_callX (ok_number_text t) takes_lam wo' hK (room.mono (by decide)) rfl t.m_number_text t.F_number_text.kp (b_number_text t) (da_cons (d_var (pv 0)) da_nil)))))
    (ds_cons (ds_app hK (pv 2) (d_lam (k := 4) hK (by rfl) t.m__law_refused t.F__law_refused.kp t.F__law_refused (b__law_refused t) sc__law_refused rfl (.inl rfl) (fun cdv s H F2 Th hK hF room hole => told__law_refused t cdv _ _ s H F2 Th hK hF hole) (tb "_law_one_right" (by decide)) hcd t.T__law_one_right.mem t.T__law_one_right.uni (room.mono (by decide)) (LamX.lamS_by (sc := defScope s__law_one_right) (by decide +kernel)) (by rfl) (fun _ _ _ _ _ => rfl)
      (fun A outer s H E f c' F' hK wo' room => (d_callKX (ok_reduced t) takes_lam wo' hK (room.mono (by decide)) rfl t.m_reduced t.F_reduced.kp (kb_reduced_number t) (dk_cons (d_var (pv 0)) dk_nil)))))
    (ds_cons (ds_app hK (pv 2) (d_lam (k := 4) hK (by rfl) t.m__law_refused t.F__law_refused.kp t.F__law_refused (b__law_refused t) sc__law_refused rfl (.inl rfl) (fun cdv s H F2 Th hK hF room hole => told__law_refused t cdv _ _ s H F2 Th hK hF hole) (tb "_law_one_right" (by decide)) hcd t.T__law_one_right.mem t.T__law_one_right.uni (room.mono (by decide)) (LamX.lamS_by (sc := defScope s__law_one_right) (by decide +kernel)) (by rfl) (fun _ _ _ _ _ => rfl)
      (fun A outer s H E f c' F' hK wo' room => (d_callKX (ok_sign t) takes_lam wo' hK (room.mono (by decide)) rfl t.m_sign t.F_sign.kp (kb_sign_number t) (dk_cons (d_var (pv 0)) dk_nil)))))
    (ds_cons (ds_app hK (pv 2) (d_lam (k := 4) hK (by rfl) t.m__law_refused t.F__law_refused.kp t.F__law_refused (b__law_refused t) sc__law_refused rfl (.inl rfl) (fun cdv s H F2 Th hK hF room hole => told__law_refused t cdv _ _ s H F2 Th hK hF hole) (tb "_law_one_right" (by decide)) hcd t.T__law_one_right.mem t.T__law_one_right.uni (room.mono (by decide)) (LamX.lamS_by (sc := defScope s__law_one_right) (by decide +kernel)) (by rfl) (fun _ _ _ _ _ => rfl)
      (fun A outer s H E f c' F' hK wo' room => (d_callKX (ok_integer_below t) takes_lam wo' hK (room.mono (by decide)) rfl t.m_integer_below t.F_integer_below.kp (kb_integer_below_number t) (dk_cons (d_var (pv 0)) dk_nil)))))
    (ds_cons (ds_app hK (pv 2) (d_lam (k := 5) hK (by rfl) t.m__law_refused t.F__law_refused.kp t.F__law_refused (b__law_refused t) sc__law_refused rfl (.inl rfl) (fun cdv s H F2 Th hK hF room hole => told__law_refused t cdv _ _ s H F2 Th hK hF hole) (tb "_law_one_right" (by decide)) hcd t.T__law_one_right.mem t.T__law_one_right.uni (room.mono (by decide)) (LamX.lamS_by (sc := defScope s__law_one_right) (by decide +kernel)) (by rfl) (fun _ _ _ _ _ => rfl)
      (fun A outer s H E f c' F' hK wo' room => (d_callKX (ok_integer_above t) takes_lam wo' hK (room.mono (by decide)) rfl t.m_integer_above t.F_integer_above.kp (kb_integer_above_number t) (dk_cons (d_var (pv 0)) dk_nil)))))
    (ds_cons (ds_app hK (pv 2) (d_lam (k := 4) hK (by rfl) t.m__law_refused t.F__law_refused.kp t.F__law_refused (b__law_refused t) sc__law_refused rfl (.inl rfl) (fun cdv s H F2 Th hK hF room hole => told__law_refused t cdv _ _ s H F2 Th hK hF hole) (tb "_law_one_right" (by decide)) hcd t.T__law_one_right.mem t.T__law_one_right.uni (room.mono (by decide)) (LamX.lamS_by (sc := defScope s__law_one_right) (by decide +kernel)) (by rfl) (fun _ _ _ _ _ => rfl)
      (fun A outer s H E f c' F' hK wo' room => (d_callKX (ok_is_whole t) takes_lam wo' hK (room.mono (by decide)) rfl t.m_is_whole t.F_is_whole.kp (kb_is_whole_number t) (dk_cons (d_var (pv 0)) dk_nil)))))
    (ds_cons (ds_app hK (pv 2) (d_lam (k := 4) hK (by rfl) t.m__law_refused t.F__law_refused.kp t.F__law_refused (b__law_refused t) sc__law_refused rfl (.inl rfl) (fun cdv s H F2 Th hK hF room hole => told__law_refused t cdv _ _ s H F2 Th hK hF hole) (tb "_law_one_right" (by decide)) hcd t.T__law_one_right.mem t.T__law_one_right.uni (room.mono (by decide)) (LamX.lamS_by (sc := defScope s__law_one_right) (by decide +kernel)) (by rfl) (fun _ _ _ _ _ => rfl)
      (fun A outer s H E f c' F' hK wo' room => (d_callKX (ok_conjugate t) takes_lam wo' hK (room.mono (by decide)) rfl t.m_conjugate t.F_conjugate.kp (kb_conjugate_number t) (dk_cons (d_var (pv 0)) dk_nil)))))
    (ds_cons (ds_app hK (pv 2) (d_lam (k := 5) hK (by rfl) t.m__law_refused t.F__law_refused.kp t.F__law_refused (b__law_refused t) sc__law_refused rfl (.inl rfl) (fun cdv s H F2 Th hK hF room hole => told__law_refused t cdv _ _ s H F2 Th hK hF hole) (tb "_law_one_right" (by decide)) hcd t.T__law_one_right.mem t.T__law_one_right.uni (room.mono (by decide)) (LamX.lamS_by (sc := defScope s__law_one_right) (by decide +kernel)) (by rfl) (fun _ _ _ _ _ => rfl)
      (fun A outer s H E f c' F' hK wo' room => (d_callKX (ok_number_text t) takes_lam wo' hK (room.mono (by decide)) rfl t.m_number_text t.F_number_text.kp (kb_number_text_number t) (dk_cons (d_var (pv 0)) dk_nil)))))
    (dss_freeze (i := 2) (ds_one (ds_ret (d_and (d_call (ok__law_same t) hK (room.mono (by decide)) rfl t.m__law_same t.F__law_same.kp (b__law_same t) (da_cons (d_var (pv 2)) (da_cons (d_mulA (d_lst (da_cons (d_var (pv 1)) da_nil)) d_int) da_nil))) (d_one (d_call (ok__law_same t) hK (room.mono (by decide)) rfl t.m__law_same t.F__law_same.kp (b__law_same t) (da_cons (d_tup (da_cons (d_call (ok_is_golden t) hK (room.mono (by decide)) rfl t.m_is_golden t.F_is_golden.kp (b_is_golden t) (da_cons (d_var (pv 0)) da_nil)) (da_cons (d_callK (ok_is_golden t) hK (room.mono (by decide)) rfl t.m_is_golden t.F_is_golden.kp (kb_is_golden_thing t) (dk_cons (d_var (pv 0)) dk_nil)) da_nil))) (da_cons (d_tup (da_cons (d_isn (d_var (pv 1)) d_non) (da_cons (d_isn (d_var (pv 1)) d_non) da_nil))) da_nil)))))))))))))))))))))))
def T__law_is_floor_refused : TDS := (dSeq (dOwn (lLst (dCons (dLam 3 T__law_refused (dCallX 2 tf_plus (dCons (dVar 0) (dCons (dTup (dCons (dC (.int 1)) (dCons (dC (.int 0)) (dCons (dC (.int 1)) dNil)))) dNil)))) dNil)) 1)
    (dSeq (dApp 1 (dLam 3 T__law_refused (dCallX 2 tf_quotient (dCons (dTup (dCons (dC (.int 0)) (dCons (dC (.int 0)) (dCons (dC (.int 1)) dNil)))) (dCons (dVar 0) dNil)))))
    (dSeq (dApp 1 (dLam 3 T__law_refused (dCallX 1 tf_sign (dCons (dVar 0) dNil))))
    (dSeq (dApp 1 (dLam 3 T__law_refused (dCallKX 2 2 [1, 0] tf_is_below (dCons (dVar 0) (dCons (dTup (dCons (dC (.int 2)) (dCons (dC (.int 1)) (dCons (dC (.int 1)) dNil)))) dNil)))))
    (dFreeze 1 (dSeq (dForV 1 (dgName 2)
    (dIfS (dtOr (dTest (dBin gIsN (dVar 2) (dC .non))) (dtOr (dTest (dBin gNe (dBin gIx (dVar 2) (dC (.int 0))) (dC (.str "number")))) (dtOr (dtNot (dTest (dUn (gIsC "Floor") (dBin gIx (dVar 2) (dC (.int 1)))))) (dtNot (dTest (dBin (gEqI "Floor" tf_Floor_eq) (dBin gIx (dVar 2) (dC (.int 1))) (dVar 0)))))))
    (dRet (dC (.bl false)))
    dNext))
    (dRet (dCall 2 tf__law_same (dCons (dTup (dCons (dCall 1 tf_is_golden (dCons (dVar 0) dNil)) (dCons (dCall 1 tf_is_golden (dCons (dTup (dCons (dVar 0) (dCons (dC (.int 0)) (dCons (dC (.int 1)) dNil)))) dNil)) dNil))) (dCons (dTup (dCons (dC (.bl false)) (dCons (dC (.bl false)) dNil))) dNil))))))))))
def tf__law_is_floor_refused : TF := fun _ ds Q => tfOf 3 T__law_is_floor_refused (fun _ => False) ds Q
theorem ok__law_is_floor_refused (t : Tx K mg) (tb : TBs K mg base TN) : FnG P w K mg base CX0 8 t.a__law_is_floor_refused t.d__law_is_floor_refused ["_law_plane"] (spD K 1 tf__law_is_floor_refused) := by
  have sc := sc__law_is_floor_refused
  exact fng_dataC (n := "_law_is_floor_refused") (N := ["_law_plane", "_law_told", "_law_it"]) (T := T__law_is_floor_refused) t.F__law_is_floor_refused sc t.E__law_is_floor_refused fun cdv A outer s H E F hK hF room hcd =>
    (ds_cons (ds_own (i := 1) sc.nd rfl (by first | exact Or.inl rfl | exact Or.inr rfl) (l_lst (da_cons (d_lam (k := 4) hK (by rfl) t.m__law_refused t.F__law_refused.kp t.F__law_refused (b__law_refused t) sc__law_refused rfl (.inl rfl) (fun cdv s H F2 Th hK hF room hole => told__law_refused t cdv _ _ s H F2 Th hK hF hole) (tb "_law_is_floor_refused" (by decide)) hcd t.T__law_is_floor_refused.mem t.T__law_is_floor_refused.uni (room.mono (by decide)) (LamX.lamS_by (sc := defScope s__law_is_floor_refused) (by decide +kernel)) (by rfl) (fun _ _ _ _ _ => rfl)
      (fun A outer s H E f c' F' hK wo' room => (d_callX (ok_plus t) takes_lam wo' hK (room.mono (by decide)) rfl t.m_plus t.F_plus.kp (b_plus t) (da_cons (d_var (pv 0)) (da_cons (d_tup (da_cons d_int (da_cons d_int (da_cons d_int da_nil)))) da_nil))))) da_nil)))
    (ds_cons (ds_app hK (pv 1) (d_lam (k := 4) hK (by rfl) t.m__law_refused t.F__law_refused.kp t.F__law_refused (b__law_refused t) sc__law_refused rfl (.inl rfl) (fun cdv s H F2 Th hK hF room hole => told__law_refused t cdv _ _ s H F2 Th hK hF hole) (tb "_law_is_floor_refused" (by decide)) hcd t.T__law_is_floor_refused.mem t.T__law_is_floor_refused.uni (room.mono (by decide)) (LamX.lamS_by (sc := defScope s__law_is_floor_refused) (by decide +kernel)) (by rfl) (fun _ _ _ _ _ => rfl)
      (fun A outer s H E f c' F' hK wo' room => (d_callX (ok_quotient t) takes_lam wo' hK (room.mono (by decide)) rfl t.m_quotient t.F_quotient.kp (b_quotient t) (da_cons (d_tup (da_cons d_int (da_cons d_int (da_cons d_int da_nil)))) (da_cons (d_var (pv 0)) da_nil))))))
    (ds_cons (ds_app hK (pv 1) (d_lam (k := 4) hK (by rfl) t.m__law_refused t.F__law_refused.kp t.F__law_refused (b__law_refused t) sc__law_refused rfl (.inl rfl) (fun cdv s H F2 Th hK hF room hole => told__law_refused t cdv _ _ s H F2 Th hK hF hole) (tb "_law_is_floor_refused" (by decide)) hcd t.T__law_is_floor_refused.mem t.T__law_is_floor_refused.uni (room.mono (by decide)) (LamX.lamS_by (sc := defScope s__law_is_floor_refused) (by decide +kernel)) (by rfl) (fun _ _ _ _ _ => rfl)
      (fun A outer s H E f c' F' hK wo' room => (d_callX (ok_sign t) takes_lam wo' hK (room.mono (by decide)) rfl t.m_sign t.F_sign.kp (b_sign t) (da_cons (d_var (pv 0)) da_nil)))))
    (ds_cons (ds_app hK (pv 1) (d_lam (k := 5) hK (by rfl) t.m__law_refused t.F__law_refused.kp t.F__law_refused (b__law_refused t) sc__law_refused rfl (.inl rfl) (fun cdv s H F2 Th hK hF room hole => told__law_refused t cdv _ _ s H F2 Th hK hF hole) (tb "_law_is_floor_refused" (by decide)) hcd t.T__law_is_floor_refused.mem t.T__law_is_floor_refused.uni (room.mono (by decide)) (LamX.lamS_by (sc := defScope s__law_is_floor_refused) (by decide +kernel)) (by rfl) (fun _ _ _ _ _ => rfl)
      (fun A outer s H E f c' F' hK wo' room => (d_callKX (ok_is_below t) takes_lam wo' hK (room.mono (by decide)) rfl t.m_is_below t.F_is_below.kp (kb_is_below_other_one t) (dk_cons (d_var (pv 0)) (dk_cons (d_tup (da_cons d_int (da_cons d_int (da_cons d_int da_nil)))) dk_nil))))))
    (dss_freeze (i := 1) (ds_cons (ds_forV hK PassesOwn.never rfl (pv 1) (dg_name (pg_name (i := 2) sc.nd rfl (by first | exact Or.inl rfl | exact Or.inr rfl)))
    (ds_one (ds_if (PW.pt (dw_or (dt_isn (d_var (pv 2)) d_non) (dw_or (dt_ne hK room.r.units (d_ix hK (d_var (pv 2)) d_int (fun _ _ => rfl)) d_str) (dw_or (dt_not (dt_val (d_isC t.I_Floor hK rfl t.n_isinstance rfl t.g_Floor (d_ix hK (d_var (pv 2)) d_int (fun _ _ => rfl))))) (dw_or1 (dt_not (dt_eqI t.I_Floor t.E_Floor.1 t.E_Floor.2 (ok_Floor_eq t) hK (room.mono (by decide)) (b_Floor_eq t) (d_ix hK (d_var (pv 2)) d_int (fun _ _ => rfl)) (d_var (pv 0)))))))))
    (ds_one (ds_ret d_bl))
    ds_nil)))
    (ds_one (ds_ret (d_call (ok__law_same t) hK (room.mono (by decide)) rfl t.m__law_same t.F__law_same.kp (b__law_same t) (da_cons (d_tup (da_cons (d_call (ok_is_golden t) hK (room.mono (by decide)) rfl t.m_is_golden t.F_is_golden.kp (b_is_golden t) (da_cons (d_var (pv 0)) da_nil)) (da_cons (d_call (ok_is_golden t) hK (room.mono (by decide)) rfl t.m_is_golden t.F_is_golden.kp (b_is_golden t) (da_cons (d_tup (da_cons (d_var (pv 0)) (da_cons d_int (da_cons d_int da_nil)))) da_nil)) da_nil))) (da_cons (d_tup (da_cons d_bl (da_cons d_bl da_nil))) da_nil)))))))))))
def T__law_is_great_right : TDS := (dSeq (dAsg (dUn gNinesB (dBin gSub (dC (.int 900)) (dCall 2 tf_draw (dCons (dVar 0) (dCons (dC (.int 9)) dNil))))) (dgName 1))
    (dSeq (dAsg (dTup (dCons (dVar 1) (dCons (dBin gMulA (dVar 1) (dBin gSub (dC (.int 1)) (dCall 2 tf_draw (dCons (dVar 0) (dCons (dC (.int 3)) dNil))))) (dCons (dC (.int 1)) dNil)))) (dgName 2))
    (dSeq (dForR (dCons (dC (.int 3)) dNil) (dgName 3)
    (dAsg (dCallX 2 tf_times (dCons (dVar 2) (dCons (dVar 2) dNil))) (dgName 2)))
    (dSeq (dIfS (dtOr (dTest (dBin (gIsBl true) (dCall 1 tf_is_golden (dCons (dVar 2) dNil)) (dC (.bl true)))) (dTest (dBin gNotN (dLam 3 T__law_refused (dCallX 2 tf_plus (dCons (dVar 2) (dCons (dTup (dCons (dC (.int 1)) (dCons (dC (.int 0)) (dCons (dC (.int 1)) dNil)))) dNil)))) (dC .non))))
    (dRet (dC (.bl false)))
    dNext)
    (dSeq (dForT (dTup (dCons (dSl (dVar 2) dNoPart (dPart (dC (.int 2)))) (dCons (dBin gAddA (dSl (dVar 2) dNoPart (dPart (dC (.int 2)))) (dTup (dCons (dC (.int 0)) dNil))) (dCons (dBin gAddA (dSl (dVar 2) dNoPart (dPart (dC (.int 2)))) (dTup (dCons (dUn gNeg (dC (.int 1))) dNil))) (dCons (dBin gAddA (dVar 2) (dTup (dCons (dC (.int 1)) dNil))) (dCons (dTup (dCons (dBin gIx (dVar 2) (dC (.int 0))) (dCons (dC .non) (dCons (dC (.int 1)) dNil)))) dNil)))))) (dgName 4)
    (dSeq (dIfS (dTest (dBin (gIsBl true) (dCall 1 tf_is_golden (dCons (dVar 4) dNil)) (dC (.bl false))))
    (dRet (dC (.bl false)))
    dNext)
    (dSeq (dAsg (dLam 3 T__law_refused (dCallX 2 tf_plus (dCons (dVar 4) (dCons (dTup (dCons (dC (.int 1)) (dCons (dC (.int 0)) (dCons (dC (.int 1)) dNil)))) dNil)))) (dgName 5))
    (dSeq (dAsg (dLam 3 T__law_refused (dCallKX 2 2 [1, 0] tf_times (dCons (dVar 4) (dCons (dVar 2) dNil)))) (dgName 6))
    (dIfS (dtOr (dTest (dBin gNe (dVar 5) (dTup (dCons (dC (.str "number")) (dCons (dVar 4) dNil))))) (dTest (dBin gNe (dVar 6) (dTup (dCons (dC (.str "number")) (dCons (dVar 4) dNil))))))
    (dRet (dC (.bl false)))
    dNext)))))
    (dRet (dC (.bl true))))))))
def tf__law_is_great_right : TF := fun _ ds Q => tfOf 7 T__law_is_great_right (fun _ => False) ds Q
theorem ok__law_is_great_right (t : Tx K mg) (tb : TBs K mg base TN) : FnG P w K mg base CX0 7 t.a__law_is_great_right t.d__law_is_great_right ["_law_deck_here"] (spD K 1 tf__law_is_great_right) := by
  have sc := sc__law_is_great_right
  exact fng_dataC (n := "_law_is_great_right") (N := ["_law_deck_here", "_law_number", "_law_great", "_law_turn", "_law_bad", "_law_near", "_law_far"]) (T := T__law_is_great_right) t.F__law_is_great_right sc t.E__law_is_great_right fun cdv A outer s H E F hK hF room hcd =>
    (ds_cons (ds_set (i := 1) sc.nd rfl (by first | exact Or.inl rfl | exact Or.inr rfl) (d_ninesB (hK ▸ t.mx) rfl t.n_int (d_sub d_int (d_call (ok__law_draw t) hK (room.mono (by decide)) rfl t.m__law_draw t.F__law_draw.kp (b__law_draw t) (da_cons (d_var (pv 0)) (da_cons d_int da_nil))))))
    (ds_cons (ds_set (i := 2) sc.nd rfl (by first | exact Or.inl rfl | exact Or.inr rfl) (d_tup (da_cons (d_var (pv 1)) (da_cons (d_mulA (d_var (pv 1)) (d_sub d_int (d_call (ok__law_draw t) hK (room.mono (by decide)) rfl t.m__law_draw t.F__law_draw.kp (b__law_draw t) (da_cons (d_var (pv 0)) (da_cons d_int da_nil))))) (da_cons d_int da_nil)))))
    (ds_cons (ds_forR1 PassesOwn.never rfl rfl t.n_range (da_cons d_int da_nil) (dg_name (pg_name (i := 3) sc.nd rfl (by first | exact Or.inl rfl | exact Or.inr rfl)))
    (ds_one (ds_set (i := 2) sc.nd rfl (by first | exact Or.inl rfl | exact Or.inr rfl) (d_callX (ok_times t) takes_none5 (wok_none hF) hK (room.mono (by decide)) rfl t.m_times t.F_times.kp (b_times t) (da_cons (d_var (pv 2)) (da_cons (d_var (pv 2)) da_nil))))))
    (ds_cons (ds_if (PW.pt (dw_or (dt_isnotbl (d_call (ok_is_golden t) hK (room.mono (by decide)) rfl t.m_is_golden t.F_is_golden.kp (b_is_golden t) (da_cons (d_var (pv 2)) da_nil)) d_bl) (dw_or1 (dt_notN (d_lam (k := 4) hK (by rfl) t.m__law_refused t.F__law_refused.kp t.F__law_refused (b__law_refused t) sc__law_refused rfl (.inl rfl) (fun cdv s H F2 Th hK hF room hole => told__law_refused t cdv _ _ s H F2 Th hK hF hole) (tb "_law_is_great_right" (by decide)) hcd t.T__law_is_great_right.mem t.T__law_is_great_right.uni (room.mono (by decide)) (LamX.lamS_by (sc := defScope s__law_is_great_right) (by decide +kernel)) (by rfl) (fun _ _ _ _ _ => rfl)
      (fun A outer s H E f c' F' hK wo' room => (d_callX (ok_plus t) takes_lam wo' hK (room.mono (by decide)) rfl t.m_plus t.F_plus.kp (b_plus t) (da_cons (d_var (pv 2)) (da_cons (d_tup (da_cons d_int (da_cons d_int (da_cons d_int da_nil)))) da_nil))))) d_non))))
    (ds_one (ds_ret d_bl))
    ds_nil)
    (ds_cons (ds_forT hK PassesOwn.never rfl (d_tup (da_cons (d_slice hK (d_var (pv 2)) do_none (do_some d_int)) (da_cons (d_addA hK (d_slice hK (d_var (pv 2)) do_none (do_some d_int)) (d_tup (da_cons d_int da_nil))) (da_cons (d_addA hK (d_slice hK (d_var (pv 2)) do_none (do_some d_int)) (d_tup (da_cons (d_neg d_int) da_nil))) (da_cons (d_addA hK (d_var (pv 2)) (d_tup (da_cons d_int da_nil))) (da_cons (d_tup (da_cons (d_ix hK (d_var (pv 2)) d_int (fun _ _ => rfl)) (da_cons d_non (da_cons d_int da_nil)))) da_nil)))))) (dg_name (pg_name (i := 4) sc.nd rfl (by first | exact Or.inl rfl | exact Or.inr rfl)))
    (ds_cons (ds_if (dt_isnotbl (d_call (ok_is_golden t) hK (room.mono (by decide)) rfl t.m_is_golden t.F_is_golden.kp (b_is_golden t) (da_cons (d_var (pv 4)) da_nil)) d_bl)
    (ds_one (ds_ret d_bl))
    ds_nil)
    (ds_cons (ds_set (i := 5) sc.nd rfl (by first | exact Or.inl rfl | exact Or.inr rfl) (d_lam (k := 4) hK (by rfl) t.m__law_refused t.F__law_refused.kp t.F__law_refused (b__law_refused t) sc__law_refused rfl (.inl rfl) (fun cdv s H F2 Th hK hF room hole => told__law_refused t cdv _ _ s H F2 Th hK hF hole) (tb "_law_is_great_right" (by decide)) hcd t.T__law_is_great_right.mem t.T__law_is_great_right.uni (room.mono (by decide)) (LamX.lamS_by (sc := defScope s__law_is_great_right) (by decide +kernel)) (by rfl) (fun _ _ _ _ _ => rfl)
      (fun A outer s H E f c' F' hK wo' room => (d_callX (ok_plus t) takes_lam wo' hK (room.mono (by decide)) rfl t.m_plus t.F_plus.kp (b_plus t) (da_cons (d_var (pv 4)) (da_cons (d_tup (da_cons d_int (da_cons d_int (da_cons d_int da_nil)))) da_nil))))))
    (ds_cons (ds_set (i := 6) sc.nd rfl (by first | exact Or.inl rfl | exact Or.inr rfl) (d_lam (k := 4) hK (by rfl) t.m__law_refused t.F__law_refused.kp t.F__law_refused (b__law_refused t) sc__law_refused rfl (.inl rfl) (fun cdv s H F2 Th hK hF room hole => told__law_refused t cdv _ _ s H F2 Th hK hF hole) (tb "_law_is_great_right" (by decide)) hcd t.T__law_is_great_right.mem t.T__law_is_great_right.uni (room.mono (by decide)) (LamX.lamS_by (sc := defScope s__law_is_great_right) (by decide +kernel)) (by rfl) (fun _ _ _ _ _ => rfl)
      (fun A outer s H E f c' F' hK wo' room => (d_callKX (ok_times t) takes_lam wo' hK (room.mono (by decide)) rfl t.m_times t.F_times.kp (kb_times_other_one t) (dk_cons (d_var (pv 4)) (dk_cons (d_var (pv 2)) dk_nil))))))
    (ds_one (ds_if (PW.pt (dw_or (dt_ne hK room.r.units (d_var (pv 5)) (d_tup (da_cons d_str (da_cons (d_var (pv 4)) da_nil)))) (dw_or1 (dt_ne hK room.r.units (d_var (pv 6)) (d_tup (da_cons d_str (da_cons (d_var (pv 4)) da_nil)))))))
    (ds_one (ds_ret d_bl))
    ds_nil))))))
    (ds_one (ds_ret d_bl)))))))
def T_law : TDS := (dSeq (dForR (dCons (dC (.int 8)) dNil) (dgName 2)
    (dSeq (dPar 3 4 (dCons (dCall 1 tf__law_value (dCons (dVar 1) dNil)) (dCons (dCall 1 tf__law_value (dCons (dVar 1) dNil)) dNil)))
    (dSeq (dIfS (dTest (dBin gEq (dCall 2 tf_draw (dCons (dVar 1) (dCons (dC (.int 6)) dNil))) (dC (.int 0))))
    (dAsg (dVar 3) (dgName 4))
    dNext)
    (dSeq (dAsg (dCB gReprR (dCons (dTup (dCons (dVar 3) (dCons (dVar 4) dNil))) dNil)) (dgName 5))
    (dIfS (dtOr (dtNot (dTest (dCall 2 tf__law_two_right (dCons (dVar 3) (dCons (dVar 4) dNil))))) (dtOr (dtNot (dTest (dCall 1 tf__law_one_right (dCons (dVar 3) dNil)))) (dtNot (dTest (dCall 2 tf__law_same (dCons (dCB gReprR (dCons (dTup (dCons (dVar 3) (dCons (dVar 4) dNil))) dNil)) (dCons (dVar 5) dNil)))))))
    (dRet (dC (.bl false)))
    dNext)))))
    (dSeq (dAsg (dCallX 1 tf_power (dCons (dBin gSub (dC (.int 250)) (dCall 2 tf_draw (dCons (dVar 1) (dCons (dC (.int 50)) dNil)))) dNil)) (dgName 6))
    (dSeq (dIfS (dtOr (dtNot (dTest (dCall 1 tf__law_one_right (dCons (dVar 6) dNil)))) (dtOr (dtNot (dTest (dCall 1 tf__law_one_right (dCons (dBin gAddA (dSl (dVar 6) (dPart (dC (.int 1))) dNoPart) (dTup (dCons (dUn gNeg (dBin gIx (dVar 6) (dC (.int 0)))) dNil))) dNil)))) (dtNot (dTest (dCall 1 tf__law_one_right (dCons (dSl (dVar 6) dNoPart (dPart (dC (.int 2)))) dNil))))))
    (dRet (dC (.bl false)))
    dNext)
    (dSeq (dIfS (dtNot (dTest (dCall 1 tf__law_is_great_right (dCons (dVar 1) dNil))))
    (dRet (dC (.bl false)))
    dNext)
    (dRet (dCall 1 tf__law_is_floor_refused (dCons (dMk 3 [.tup [.int (0), .int (0), .int (0), .int (0), .int (0)]] tf_Floor_init (dCons (dTup (dCons (dBin gAddA (dBin gMulA (dC (.int 3)) (dCall 2 tf__law_integer (dCons (dVar 1) (dCons (dC (.int 2)) dNil)))) (dC (.int 1))) (dCons (dC (.int 0)) (dCons (dC (.int 3)) dNil)))) (dCons (dTup (dCons (dC (.int 1)) (dCons (dBin gMulA (dC (.int 3)) (dCall 2 tf__law_integer (dCons (dVar 1) (dCons (dC (.int 2)) dNil)))) (dCons (dC (.int 3)) dNil)))) dNil))) dNil)))))))
theorem ok_law (t : Tx K mg) (tb : TBs K mg base TN) : FnG P w K mg base CX0 9 t.a_law t.d_law ["_law_script"] (spLaw K 5 T_law) := by
  have sc := sc_law
  refine fng_of (N := ["_law_script", "_law_deck_here", "_law_turn", "_law_p", "_law_q", "_law_text", "_law_great"]) t.F_law sc ?_ ?_
  · rintro vs H Q E ⟨a, ns, rfl, _⟩
    rfl
  rintro cdv A outer s H vs Q E room ⟨a, ns, rfl, hS, hlen, hTb, hT, hQ⟩
  have rest : ∀ F : FP, (F.K = K ∧ F.ex = fun _ _ => False) → PSs (cxOf CX0 P w K mg base ["_law_script", "_law_deck_here", "_law_turn", "_law_p", "_law_q", "_law_text", "_law_great"] "law" (defScope s_law) t.a_law cdv A outer s H E).nox (defBody s_law).tail (sD F T_law) := fun F ⟨hK, hF⟩ =>
    (ds_cons (ds_forR1 PassesOwn.never rfl rfl t.n_range (da_cons d_int da_nil) (dg_name (pg_name (i := 2) sc.nd rfl (by first | exact Or.inl rfl | exact Or.inr rfl)))
    (ds_cons (ds_par (i := 3) (j := 4) rfl sc.nd rfl rfl (by decide) rfl rfl (da_cons (d_call (ok__law_value t) hK (room.mono (by decide)) rfl t.m__law_value t.F__law_value.kp (b__law_value t) (da_cons (d_var (pv 1)) da_nil)) (da_cons (d_call (ok__law_value t) hK (room.mono (by decide)) rfl t.m__law_value t.F__law_value.kp (b__law_value t) (da_cons (d_var (pv 1)) da_nil)) da_nil)))
    (ds_cons (ds_if (dt_eq hK room.r.units (d_call (ok__law_draw t) hK (room.mono (by decide)) rfl t.m__law_draw t.F__law_draw.kp (b__law_draw t) (da_cons (d_var (pv 1)) (da_cons d_int da_nil))) d_int)
    (ds_one (ds_set (i := 4) sc.nd rfl (by first | exact Or.inl rfl | exact Or.inr rfl) (d_var (pv 3))))
    ds_nil)
    (ds_cons (ds_set (i := 5) sc.nd rfl (by first | exact Or.inl rfl | exact Or.inr rfl) (d_reprR hK t.sm room.g (units80 room.r) rfl t.n_repr (da_cons (d_tup (da_cons (d_var (pv 3)) (da_cons (d_var (pv 4)) da_nil))) da_nil)))
    (ds_one (ds_if (PW.pt (dw_or (dt_not (dt_val (d_call (ok__law_two_right t tb) hK (room.mono (by decide)) rfl t.m__law_two_right t.F__law_two_right.kp (b__law_two_right t) (da_cons (d_var (pv 3)) (da_cons (d_var (pv 4)) da_nil))))) (dw_or (dt_not (dt_val (d_call (ok__law_one_right t tb) hK (room.mono (by decide)) rfl t.m__law_one_right t.F__law_one_right.kp (b__law_one_right t) (da_cons (d_var (pv 3)) da_nil)))) (dw_or1 (dt_not (dt_val (d_call (ok__law_same t) hK (room.mono (by decide)) rfl t.m__law_same t.F__law_same.kp (b__law_same t) (da_cons (d_reprR hK t.sm room.g (units80 room.r) rfl t.n_repr (da_cons (d_tup (da_cons (d_var (pv 3)) (da_cons (d_var (pv 4)) da_nil))) da_nil)) (da_cons (d_var (pv 5)) da_nil)))))))))
    (ds_one (ds_ret d_bl))
    ds_nil))))))
    (ds_cons (ds_set (i := 6) sc.nd rfl (by first | exact Or.inl rfl | exact Or.inr rfl) (d_callX (ok_power t) takes_none5 (wok_none hF) hK (room.mono (by decide)) rfl t.m_power t.F_power.kp (b_power t) (da_cons (d_sub d_int (d_call (ok__law_draw t) hK (room.mono (by decide)) rfl t.m__law_draw t.F__law_draw.kp (b__law_draw t) (da_cons (d_var (pv 1)) (da_cons d_int da_nil)))) da_nil)))
    (ds_cons (ds_if (PW.pt (dw_or (dt_not (dt_val (d_call (ok__law_one_right t tb) hK (room.mono (by decide)) rfl t.m__law_one_right t.F__law_one_right.kp (b__law_one_right t) (da_cons (d_var (pv 6)) da_nil)))) (dw_or (dt_not (dt_val (d_call (ok__law_one_right t tb) hK (room.mono (by decide)) rfl t.m__law_one_right t.F__law_one_right.kp (b__law_one_right t) (da_cons (d_addA hK (d_slice hK (d_var (pv 6)) (do_some d_int) do_none) (d_tup (da_cons (d_neg (d_ix hK (d_var (pv 6)) d_int (fun _ _ => rfl))) da_nil))) da_nil)))) (dw_or1 (dt_not (dt_val (d_call (ok__law_one_right t tb) hK (room.mono (by decide)) rfl t.m__law_one_right t.F__law_one_right.kp (b__law_one_right t) (da_cons (d_slice hK (d_var (pv 6)) do_none (do_some d_int)) da_nil))))))))
    (ds_one (ds_ret d_bl))
    ds_nil)
    (ds_cons (ds_if (dt_not (dt_val (d_call (ok__law_is_great_right t tb) hK (room.mono (by decide)) rfl t.m__law_is_great_right t.F__law_is_great_right.kp (b__law_is_great_right t) (da_cons (d_var (pv 1)) da_nil))))
    (ds_one (ds_ret d_bl))
    ds_nil)
    (ds_one (ds_ret (d_call (ok__law_is_floor_refused t tb) hK (room.mono (by decide)) rfl t.m__law_is_floor_refused t.F__law_is_floor_refused.kp (b__law_is_floor_refused t) (da_cons (d_make t.M_Floor t.I_Floor (ok_Floor_init t) takes_none5 (wok_none hF) hK (room.mono (by decide)) rfl t.g_Floor (bd_Floor_init_3 t) (fun _ _ _ => ⟨_, _, rfl, ⟨t.v_Floor_init, _, rfl, .inr t.V_Floor_init, reps_ints [0, 0, 0, 0, 0]⟩, rfl⟩) (da_cons (d_tup (da_cons (d_addA hK (d_mulA d_int (d_call (ok__law_integer t) hK (room.mono (by decide)) rfl t.m__law_integer t.F__law_integer.kp (b__law_integer t) (da_cons (d_var (pv 1)) (da_cons d_int da_nil)))) d_int) (da_cons d_int (da_cons d_int da_nil)))) (da_cons (d_tup (da_cons d_int (da_cons (d_mulA d_int (d_call (ok__law_integer t) hK (room.mono (by decide)) rfl t.m__law_integer t.F__law_integer.kp (b__law_integer t) (da_cons (d_var (pv 1)) (da_cons d_int da_nil)))) (da_cons d_int da_nil)))) da_nil))) da_nil))))))))
  refine ⟨_, PSs.nox (pss_cons (ps_set (i := 1) sc.nd rfl (by first | exact Or.inl rfl | exact Or.inr rfl) (pe_callG (ok__law_deck t) (room.mono (by decide)) rfl t.m__law_deck t.F__law_deck.kp (b__law_deck t) .nil pass0 (pa_cons (pv 0) pa_nil))) (PSs.exF rest)), ?_⟩
  refine ⟨_, rfl, a, ns, rfl, hS, hlen, fun H' d l m xs hs h1 h2 h3 h4 h5 => ?_⟩
  exact law_rest h3 h4 h5 (LamX.Tabs.ext hTb hs) hT hQ
end
end K10
set_option Elab.async false
set_option linter.all false
set_option maxHeartbeats 1000000
set_option maxRecDepth 100000
namespace K10
open PySem PySem.Spec L2 DL
variable {ξ : XT} {Q : D → Prop}
theorem szN (n : Nat) (h : n ≤ 1000 := by decide) : n ≤ sizeLine := sz h
/-! ### golden or not -/
def isI : D → Bool
  | .int _ => true
  | _ => false
def vi : D → Int
  | .int i => i
  | _ => 0
def isG : D → Bool
  | .tup [a, b, d] => isI a && (isI b && (isI d && decide (vi d ≥ 1)))
  | _ => false
abbrev T3 (a b d : Int) : D := .tup [.int a, .int b, .int d]
/-- a value whose parts have a type -/
def Ty : D → Prop
  | .tup ds => ∀ d ∈ ds, typed d = true
  | .kt _ => False
  | .deck => False
  | .ty _ => False
  | _ => True
theorem isI_of {d : D} (h : isI d = true) : ∃ i, d = .int i := by
  cases d <;> first | exact ⟨_, rfl⟩ | cases h
theorem isG_of {x : D} (h : isG x = true) : ∃ a b d, x = T3 a b d ∧ 1 ≤ d := by
  unfold isG at h
  split at h
  · rename_i a b d
    simp only [Bool.and_eq_true, decide_eq_true_eq] at h
    obtain ⟨h1, h2, h3, h4⟩ := h
    obtain ⟨a, rfl⟩ := isI_of h1
    obtain ⟨b, rfl⟩ := isI_of h2
    obtain ⟨d, rfl⟩ := isI_of h3
    exact ⟨a, b, d, rfl, h4⟩
  · cases h
theorem isG_T {a b d : Int} (h : 1 ≤ d) : isG (T3 a b d) = true := by
  show (true && (true && (true && decide (d ≥ 1)))) = true
  rw [decide_eq_true h]; rfl
theorem e_ipi {d : D} (h : typed d = true) (q : Q (.bl (isI d))) : tf_is_plain_integer ξ [d] Q := by
  cases d with
  | int i => exact ⟨rfl, rfl, q⟩
  | bl b => exact ⟨rfl, rfl, q⟩
  | deck => cases h
  | ty n => cases h
  | _ => exact ⟨rfl, q⟩
theorem andq {p r : Bool} {A : Prop} (q : Q (.bl (p && r))) (k : Q (.bl r) → A) : if p = true then A else Q (.bl false) := by
  cases p
  · exact q
  · exact k q
theorem e_isG {x : D} (v : Ty x) (q : Q (.bl (isG x))) : tf_is_golden ξ [x] Q := by
  cases x with
  | tup ds =>
    refine ⟨rfl, ?_⟩
    show (if (!decide ((ds.length : Int) = 3)) = true then _ else _)
    by_cases hl : (ds.length : Int) = 3
    · rw [decide_eq_true hl]
      match ds, hl with
      | [a, b, d], _ =>
        have va := v a (by simp)
        have vb := v b (by simp)
        have vd := v d (by simp)
        have q : Q (.bl (isI a && (isI b && (isI d && decide (vi d ≥ 1))))) := q
        refine ⟨rfl, rfl, e_ipi va ?_⟩
        refine (andq q fun q => ?_ : if isI a = true then _ else Q (.bl false))
        refine ⟨rfl, e_ipi vb ?_⟩
        refine (andq q fun q => ?_ : if isI b = true then _ else Q (.bl false))
        refine ⟨rfl, e_ipi vd ?_⟩
        cases hd : isI d with
        | false => rw [hd] at q; exact q
        | true =>
          rw [hd] at q
          obtain ⟨i, rfl⟩ := isI_of hd
          exact q
      | [], h => simp at h
      | [_], h => simp at h
      | [_, _], h => simp at h
      | _ :: _ :: _ :: _ :: _, h => simp only [List.length_cons] at h; omega
    · rw [decide_eq_false hl]
      have e : isG (.tup ds) = false := by
        unfold isG
        split
        · rename_i e
          cases e
          exact (hl rfl).elim
        · rfl
      rw [e] at q
      exact q
  | deck => cases v
  | ty n => cases v
  | kt n => cases v
  | _ => exact ⟨rfl, q⟩
theorem e_needX {x : D} (v : Ty x) (h1 : isG x = false → ξ ⟨"BadNumber", [("thing", x)]⟩) (h2 : isG x = true → Q .non) : tf_need_golden ξ [x] Q := by
  refine ⟨rfl, e_isG v ?_⟩
  cases h : isG x with
  | false => exact h1 h
  | true => exact h2 h
theorem ty3 (a b d : Int) : Ty (T3 a b d) := by
  intro x m
  simp only [List.mem_cons, List.not_mem_nil, or_false] at m
  rcases m with rfl | rfl | rfl <;> rfl
theorem e_need {a b d : Int} (hd : 1 ≤ d) (h : Q .non) : tf_need_golden ξ [T3 a b d] Q := e_needX (ty3 a b d) (fun z => by rw [isG_T hd] at z; cases z) fun _ => h
/-! ### lowest terms -/
structure Nf (x y z : Int) : Prop where
  p : 1 ≤ z
  g : (x.natAbs.gcd y.natAbs).gcd z.natAbs = 1
def Rl (A B C x y z : Int) : Prop := x * C = A * z ∧ y * C = B * z
structure Gs (n : Nat) (a b d : Int) : Prop where
  ba : Bd n a
  bb : Bd n b
  bd : Bd n d
  p : 1 ≤ d
theorem Gs.mono {n m : Nat} {a b d : Int} (g : Gs n a b d) (l : n ≤ m) : Gs m a b d := ⟨g.ba.mono l, g.bb.mono l, g.bd.mono l, g.p⟩
theorem core3 (a b d : Int) (hd : d ≠ 0) : ∃ x y z : Int, ∃ G : Int, G = (((Nat.gcd a.natAbs b.natAbs).gcd d.natAbs : Nat) : Int) ∧ 0 < G ∧ a = G * x ∧ b = G * y ∧ d = G * z ∧ (x.natAbs.gcd y.natAbs).gcd z.natAbs = 1 := by
  generalize hg : (Nat.gcd a.natAbs b.natAbs).gcd d.natAbs = g
  have da : g ∣ a.natAbs := hg ▸ Nat.dvd_trans (Nat.gcd_dvd_left _ _) (Nat.gcd_dvd_left _ _)
  have db : g ∣ b.natAbs := hg ▸ Nat.dvd_trans (Nat.gcd_dvd_left _ _) (Nat.gcd_dvd_right _ _)
  have dd : g ∣ d.natAbs := hg ▸ Nat.gcd_dvd_right _ _
  have gp : 0 < g := by
    refine Nat.pos_of_ne_zero fun e => ?_
    rw [e] at dd
    have := Nat.eq_zero_of_zero_dvd dd
    omega
  obtain ⟨x, hx⟩ := Int.ofNat_dvd_left.mpr da
  obtain ⟨y, hy⟩ := Int.ofNat_dvd_left.mpr db
  obtain ⟨z, hz⟩ := Int.ofNat_dvd_left.mpr dd
  refine ⟨x, y, z, (g : Int), rfl, by omega, hx, hy, hz, ?_⟩
  have ea : a.natAbs = g * x.natAbs := by rw [hx, Int.natAbs_mul]; rfl
  have eb : b.natAbs = g * y.natAbs := by rw [hy, Int.natAbs_mul]; rfl
  have ed : d.natAbs = g * z.natAbs := by rw [hz, Int.natAbs_mul]; rfl
  rw [ea, eb, ed, Nat.gcd_mul_left, Nat.gcd_mul_left] at hg
  exact Nat.eq_of_mul_eq_mul_left gp (by rw [hg, Nat.mul_one])
theorem Nf.le {x y z x' y' z' : Int} (h : Nf x y z) (p : 1 ≤ z') (r : Rl x y z x' y' z') : z ∣ z' := by
  obtain ⟨e1, e2⟩ := r
  have d1 : z.natAbs ∣ x.natAbs * z'.natAbs := by
    rw [← Int.natAbs_mul, ← e1, Int.natAbs_mul]
    exact Nat.dvd_mul_left _ _
  have d2 : z.natAbs ∣ y.natAbs * z'.natAbs := by
    rw [← Int.natAbs_mul, ← e2, Int.natAbs_mul]
    exact Nat.dvd_mul_left _ _
  have d3 : z.natAbs ∣ z.natAbs * z'.natAbs := Nat.dvd_mul_right _ _
  have d4 := Nat.dvd_gcd (Nat.dvd_gcd d1 d2) d3
  rw [Nat.gcd_mul_right, Nat.gcd_mul_right, h.g, Nat.one_mul] at d4
  exact Int.natAbs_dvd_natAbs.mp d4
theorem Rl.symm {x y z x' y' z' : Int} (r : Rl x y z x' y' z') : Rl x' y' z' x y z := ⟨r.1.symm, r.2.symm⟩
theorem nf_eq {x y z x' y' z' : Int} (h : Nf x y z) (h' : Nf x' y' z') (r : Rl x y z x' y' z') : x = x' ∧ y = y' ∧ z = z' := by
  have d1 := h.le h'.p r
  have d2 := h'.le h.p r.symm
  have e : z = z' := Int.le_antisymm (Int.le_of_dvd (by have := h'.p; omega) d1) (Int.le_of_dvd (by have := h.p; omega) d2)
  subst e
  have nz : z ≠ 0 := by have := h.p; omega
  exact ⟨(Int.eq_of_mul_eq_mul_right nz r.1).symm, (Int.eq_of_mul_eq_mul_right nz r.2).symm, rfl⟩
theorem Rl.trans {a b d x y z u v w : Int} (hz : z ≠ 0) (r : Rl a b d x y z) (q : Rl x y z u v w) : Rl a b d u v w := by
  obtain ⟨r1, r2⟩ := r
  obtain ⟨q1, q2⟩ := q
  constructor
  · refine Int.eq_of_mul_eq_mul_right hz ?_
    grind
  · refine Int.eq_of_mul_eq_mul_right hz ?_
    grind
theorem Rl.refl {a b d : Int} : Rl a b d a b d := ⟨rfl, rfl⟩
theorem bd_part {n : Nat} {a G x : Int} (h : Bd n a) (e : a = G * x) (p : 0 < G) : Bd n x := by
  refine h.of_le ?_
  rw [e, Int.natAbs_mul]
  exact Nat.le_mul_of_pos_left _ (by omega)
theorem log_sm {n : Nat} {a : Int} (h : Bd n a) (l : n ≤ 8900) : a.natAbs.log2 < 8990 := PySem.Flt.log2_lt_of (by decide) (h.mono (m := 8990) (by omega))
/-- any numbers over a bottom that is not great -/
theorem e_lowest {n m : Nat} {a b d : Int} (ha : Bd n a) (hb : Bd n b) (hd : Bd m d) (nz : d ≠ 0) (l : m ≤ 8900) (h : ∀ x y z, Nf x y z → Rl a b d x y z → Bd n x → Bd n y → Bd m z → Q (T3 x y z)) : tf__lowest ξ [.int a, .int b, .int d] Q := by
  obtain ⟨x, y, z, G, eG, pG, ea, eb, ed, cop⟩ := core3 a b d nz
  have bx := bd_part ha ea pG
  have by_ := bd_part hb eb pG
  have bz := bd_part hd ed pG
  have zn : z ≠ 0 := fun e => nz (by rw [ed, e, Int.mul_zero])
  have bG : Bd m G := hd.of_le (by
    rw [ed, Int.natAbs_mul]
    exact Nat.le_mul_of_pos_right _ (by omega))
  have lg := log_sm bG l
  have lgn : (-G).natAbs.log2 < 8990 := by rw [Int.natAbs_neg]; exact lg
  refine ifd (fun hneg => ?_) (fun hpos => ?_)
  · rw [← eG]
    have zneg : z < 0 := by
      rcases Int.lt_or_lt_of_ne zn with q | q
      · exact q
      · have := Int.mul_pos pG q
        omega
    have f1 : a.fdiv (-G) = -x := by rw [show a = (-G) * (-x) by rw [Int.neg_mul_neg]; exact ea]; exact Int.mul_fdiv_cancel_left _ (by omega)
    have f2 : b.fdiv (-G) = -y := by rw [show b = (-G) * (-y) by rw [Int.neg_mul_neg]; exact eb]; exact Int.mul_fdiv_cancel_left _ (by omega)
    have f3 : d.fdiv (-G) = -z := by rw [show d = (-G) * (-z) by rw [Int.neg_mul_neg]; exact ed]; exact Int.mul_fdiv_cancel_left _ (by omega)
    refine ⟨⟨by omega, .inr lgn⟩, ⟨by omega, .inr lgn⟩, ⟨by omega, .inr lgn⟩, sz (n := 3) (by decide), ?_⟩
    show Q (T3 (a.fdiv (-G)) (b.fdiv (-G)) (d.fdiv (-G)))
    rw [f1, f2, f3]
    refine h _ _ _ ⟨by omega, by simpa using cop⟩ ⟨?_, ?_⟩ bx.neg by_.neg bz.neg
    · rw [ea, ed]; grind
    · rw [eb, ed]; grind
  · rw [← eG]
    have zp : 0 < z := by
      rcases Int.lt_or_lt_of_ne zn with q | q
      · have := Int.mul_neg_of_pos_of_neg pG q
        omega
      · exact q
    have f1 : a.fdiv G = x := by rw [ea]; exact Int.mul_fdiv_cancel_left _ (by omega)
    have f2 : b.fdiv G = y := by rw [eb]; exact Int.mul_fdiv_cancel_left _ (by omega)
    have f3 : d.fdiv G = z := by rw [ed]; exact Int.mul_fdiv_cancel_left _ (by omega)
    refine ⟨⟨by omega, .inr lg⟩, ⟨by omega, .inr lg⟩, ⟨by omega, .inr lg⟩, sz (n := 3) (by decide), ?_⟩
    show Q (T3 (a.fdiv G) (b.fdiv G) (d.fdiv G))
    rw [f1, f2, f3]
    refine h _ _ _ ⟨by omega, cop⟩ ⟨?_, ?_⟩ bx by_ bz
    · rw [ea, ed]; grind
    · rw [eb, ed]; grind
/-! ### sums, products, quotients -/
section
variable {a b d c e f : Int} {n m : Nat}
theorem mulp {x y : Int} (h : 1 ≤ x) (k : 1 ≤ y) : 1 ≤ x * y := by
  have := Int.mul_pos (a := x) (b := y) (by omega) (by omega)
  omega
theorem Bd.m2 {x y : Int} (h : Bd n x) (k : Bd m y) : Bd (n + m) (x * y) := h.mul k
theorem bp {x y u v : Int} (h : Bd n x) (k : Bd m y) (h' : Bd n u) (k' : Bd m v) : Bd (n + m + 1) (x * y + u * v) := (h.mul k).add (h'.mul k')
theorem bm {x y u v : Int} (h : Bd n x) (k : Bd m y) (h' : Bd n u) (k' : Bd m v) : Bd (n + m + 1) (x * y - u * v) := (h.mul k).sub (h'.mul k')
theorem e_reduced (g : Gs n a b d) (l : n ≤ 8900) (h : ∀ x y z, Nf x y z → Rl a b d x y z → Gs n x y z → Q (T3 x y z)) : tf_reduced ξ [T3 a b d] Q :=
  ⟨rfl, e_need g.p ⟨rfl, rfl, e_lowest g.ba g.bb g.bd (by have := g.p; omega) l fun x y z nf r b1 b2 b3 => h x y z nf r ⟨b1, b2, b3, nf.p⟩⟩⟩
theorem e_plus (g : Gs n a b d) (k : Gs m c e f) (l : n + m + 1 ≤ 8900) (h : ∀ x y z, Nf x y z → Rl (a * f + c * d) (b * f + e * d) (d * f) x y z → Gs (n + m + 1) x y z → Q (T3 x y z)) : tf_plus ξ [T3 a b d, T3 c e f] Q := by
  refine ⟨rfl, e_need g.p ⟨rfl, e_need k.p ⟨rfl, rfl, g.ba.cmul k.bd (by omega), k.ba.cmul g.bd (by omega), g.bb.cmul k.bd (by omega), k.bb.cmul g.bd (by omega), g.bd.cmul k.bd (by omega), rfl, ?_⟩⟩⟩
  refine e_lowest (n := n + m + 1) ?_ ?_ ((g.bd.mul k.bd).mono (m := n + m + 1) (by omega)) (by have := mulp g.p k.p; omega) l fun x y z nf r b1 b2 b3 => h x y z nf r ⟨b1, b2, b3, nf.p⟩
  · exact (((g.ba.mul k.bd).mono (by omega)).add ((k.ba.mul g.bd).mono (by omega)) : Bd (n + m + 1) _)
  · exact (((g.bb.mul k.bd).mono (by omega)).add ((k.bb.mul g.bd).mono (by omega)) : Bd (n + m + 1) _)
theorem e_minus (g : Gs n a b d) (k : Gs m c e f) (l : n + m + 1 ≤ 8900) (h : ∀ x y z, Nf x y z → Rl (a * f - c * d) (b * f - e * d) (d * f) x y z → Gs (n + m + 1) x y z → Q (T3 x y z)) : tf_minus ξ [T3 a b d, T3 c e f] Q := by
  refine ⟨rfl, e_need g.p ⟨rfl, e_need k.p ⟨rfl, rfl, g.ba.cmul k.bd (by omega), k.ba.cmul g.bd (by omega), g.bb.cmul k.bd (by omega), k.bb.cmul g.bd (by omega), g.bd.cmul k.bd (by omega), rfl, ?_⟩⟩⟩
  refine e_lowest (n := n + m + 1) ?_ ?_ ((g.bd.mul k.bd).mono (m := n + m + 1) (by omega)) (by have := mulp g.p k.p; omega) l fun x y z nf r b1 b2 b3 => h x y z nf r ⟨b1, b2, b3, nf.p⟩
  · exact (((g.ba.mul k.bd).mono (by omega)).sub ((k.ba.mul g.bd).mono (by omega)) : Bd (n + m + 1) _)
  · exact (((g.bb.mul k.bd).mono (by omega)).sub ((k.bb.mul g.bd).mono (by omega)) : Bd (n + m + 1) _)
/-- numbers may be great, bottoms not -/
theorem e_times {u v : Nat} (ga : Bd n a) (gb : Bd n b) (gd : Bd u d) (gp : 1 ≤ d) (ka : Bd m c) (kb : Bd m e) (kd : Bd v f) (kp : 1 ≤ f) (l : n + m ≤ 100000) (l2 : u + v ≤ 8900) (h : ∀ x y z, Nf x y z → Rl (a * c + b * e) (a * e + b * c + b * e) (d * f) x y z → Bd (n + m + 2) x → Bd (n + m + 2) y → Bd (u + v) z → Q (T3 x y z)) : tf_times ξ [T3 a b d, T3 c e f] Q := by
  refine ⟨rfl, e_need gp ⟨rfl, e_need kp ⟨rfl, rfl, ga.cmul ka (by omega), gb.cmul kb (by omega), ga.cmul kb (by omega), gb.cmul ka (by omega), gb.cmul kb (by omega), gd.cmul kd (by omega), rfl, ?_⟩⟩⟩
  refine e_lowest (n := n + m + 2) ?_ ?_ (gd.mul kd) (by have := mulp gp kp; omega) l2 h
  · exact (bp ga ka gb kb).mono (by omega)
  · exact ((bp ga kb gb ka).add ((gb.mul kb).mono (by omega)) : Bd (n + m + 1 + 1) _)
theorem e_conj (g : Gs n a b d) (l : n + 1 ≤ 8900) (h : ∀ v, Q v) : tf_conjugate ξ [T3 a b d] Q :=
  ⟨rfl, e_need g.p ⟨rfl, rfl, e_lowest (g.ba.add g.bb) (g.bb.neg.mono (by omega)) (g.bd.mono (m := n + 1) (by omega)) (by have := g.p; omega) l fun _ _ _ _ _ _ _ _ => h _⟩⟩
/-- c c + c e - e e -/
abbrev nm (c e : Int) : Int := c * c + c * e - e * e
theorem bd_nm (hc : Bd m c) (he : Bd m e) : Bd (m + m + 2) (nm c e) := (bp hc hc hc he).sub ((he.mul he).mono (by omega))
theorem bd_q1 (g : Gs n a b d) (k : Gs m c e f) : Bd (n + m + 2) (a * (c + e) - b * e) := ((g.ba.mul (k.ba.add k.bb)).mono (m := n + m + 1) (by omega)).sub ((g.bb.mul k.bb).mono (by omega))
theorem bd_q2 (g : Gs n a b d) (k : Gs m c e f) : Bd (n + m + 1) (b * c - a * e) := bm g.bb k.ba g.ba k.bb
theorem root5 : ∀ (k : Nat) (n b : Nat), n ≤ k → n * n = 5 * (b * b) → n = 0
  | 0, n, b, h, _ => by omega
  | k + 1, n, b, h, e => by
    have h5 : n % 5 = 0 := by
      have : (n * n) % 5 = 0 := by omega
      rw [Nat.mul_mod] at this
      have l : n % 5 < 5 := Nat.mod_lt _ (by decide)
      generalize n % 5 = r at *
      match r, l with
      | 0, _ => rfl
      | 1, _ => simp at this
      | 2, _ => simp at this
      | 3, _ => simp at this
      | 4, _ => simp at this
    obtain ⟨m, rfl⟩ : ∃ m, n = 5 * m := ⟨n / 5, by omega⟩
    have e2 : b * b = 5 * (m * m) := by
      have : 5 * m * (5 * m) = 25 * (m * m) := by rw [Nat.mul_mul_mul_comm]
      omega
    have hm : m * m ≤ m * m := Nat.le_refl _
    by_cases hm0 : m = 0
    · omega
    · have hb : b ≤ 5 * m - 1 := by
        by_cases hb : b ≤ 5 * m - 1
        · exact hb
        · have h1 : 5 * m ≤ b := by omega
          have h2 := Nat.mul_le_mul h1 h1
          have : 5 * m * (5 * m) = 25 * (m * m) := by rw [Nat.mul_mul_mul_comm]
          have p : 0 < m * m := Nat.mul_pos (by omega) (by omega)
          omega
      have hb0 := root5 k b m (by omega) e2
      subst hb0
      have p : 0 < m * m := Nat.mul_pos (by omega) (by omega)
      omega
theorem nm_ne {c e : Int} (h : ¬ (c = 0 ∧ e = 0)) : nm c e ≠ 0 := fun z => by
  have s : (2 * c + e) * (2 * c + e) = 5 * (e * e) := by unfold nm at z; grind
  have r := root5 _ (2 * c + e).natAbs e.natAbs (Nat.le_refl _) (by
    rw [← Int.natAbs_mul, s, Int.natAbs_mul, Int.natAbs_mul]; rfl)
  have q : 2 * c + e = 0 := Int.natAbs_eq_zero.mp r
  rw [q, Int.zero_mul] at s
  have e0 : e * e = 0 := by omega
  rcases Int.mul_eq_zero.mp e0 with w | w <;> omega
theorem e_quotient (g : Gs n a b d) (k : Gs m c e f) (l : n + m + m + 2 ≤ 8900) (hx : c = 0 ∧ e = 0 → ξ ⟨"DividedByZero", []⟩) (h : ¬ (c = 0 ∧ e = 0) → ∀ v, Q v) : tf_quotient ξ [T3 a b d, T3 c e f] Q := by
  have fin : ¬ (c = 0 ∧ e = 0) → CMulW c c ∧ CMulW c e ∧ CMulW e e ∧ CMulW a (c + e) ∧ CMulW b e ∧ CMulW (a * (c + e) - b * e) f ∧ CMulW b c ∧ CMulW a e ∧ CMulW (b * c - a * e) f ∧ CMulW d (nm c e) ∧ 3 = 3 ∧ tf__lowest (fun x => False) [.int ((a * (c + e) - b * e) * f), .int ((b * c - a * e) * f), .int (d * nm c e)] Q := fun nn =>
    ⟨k.ba.cmul k.ba (by omega), k.ba.cmul k.bb (by omega), k.bb.cmul k.bb (by omega), g.ba.cmul (k.ba.add k.bb) (by omega), g.bb.cmul k.bb (by omega), (bd_q1 g k).cmul k.bd (by omega), g.bb.cmul k.ba (by omega), g.ba.cmul k.bb (by omega), (bd_q2 g k).cmul k.bd (by omega), g.bd.cmul (bd_nm k.ba k.bb) (by omega), rfl,
      e_lowest (n := n + m + m + 2) (((bd_q1 g k).mul k.bd).mono (by omega)) (((bd_q2 g k).mul k.bd).mono (by omega)) ((g.bd.mul (bd_nm k.ba k.bb)).mono (m := n + m + m + 2) (by omega)) (fun z => (Int.mul_eq_zero.mp z).elim (fun q => by have := g.p; omega) (nm_ne nn)) l fun _ _ _ _ _ _ _ _ => h nn _⟩
  refine ⟨rfl, e_need g.p ⟨rfl, e_need k.p ⟨rfl, rfl, ?_⟩⟩⟩
  refine ifd (fun h1 => ?_) (fun h1 => fin fun z => h1 z.1)
  refine ifd (fun h2 => hx ⟨h1, h2⟩) (fun h2 => fin fun z => h2 z.2)
end
end K10
set_option Elab.async false
set_option linter.all false
set_option maxHeartbeats 1000000
set_option maxRecDepth 100000
namespace K10
open PySem PySem.Spec L2 DL
variable {ξ : XT} {Q : D → Prop}
theorem eqBl {b c : Bool} {P : D → Prop} (q : ∀ r, P (.bl r)) : gEq (.bl b) (.bl c) P := by
  cases b <;> cases c <;> exact ⟨⟨rfl, rfl⟩, q _⟩
theorem ifa {p : Bool} {A B : Prop} (h1 : A) (h2 : B) : if p = true then A else B := by cases p <;> assumption
theorem e_sop {n : Nat} {a b : Int} (ha : Bd n a) (hb : Bd n b) (l : n ≤ 5000) (h : ∀ i, Q (.int i)) : tf_sign_of_parts ξ [.int a, .int b] Q := by
  have hn : Bd (n + 3) (2 * a + b) := ((Bd.mul (n := 2) Bd.lit ha).mono (m := n + 2) (by omega)).add (hb.mono (by omega))
  have h5 : Bd (n + 3) (5 * b) := (Bd.mul (n := 3) Bd.lit hb).mono (by omega)
  refine ⟨Bd.cmul (n := 2) Bd.lit ha (by omega), ?_⟩
  refine ifd (fun h1 => ?_) (fun h1 => ?_)
  · refine ifd (fun h2 => ?_) (fun h2 => ?_)
    · refine ifd (fun h3 => ?_) (fun h3 => ?_)
      · exact h _
      · refine ifd (fun h4 => ?_) (fun h4 => ?_)
        · exact h _
        · exact h _
    · refine ifd (fun h3 => ?_) (fun h3 => ?_)
      · refine ifd (fun h4 => ?_) (fun h4 => ?_)
        · exact h _
        · omega
      · exact ⟨hn.cmul hn (by omega), Bd.cmul (n := 3) Bd.lit hb (by omega), h5.cmul hb (by omega), ⟨rfl, rfl⟩, ifa (h _) (h _)⟩
  · refine ifd (fun h3 => ?_) (fun h3 => ?_)
    · refine ifd (fun h4 => ?_) (fun h4 => ?_)
      · exact h _
      · exact ⟨hn.cmul hn (by omega), Bd.cmul (n := 3) Bd.lit hb (by omega), h5.cmul hb (by omega), ⟨rfl, rfl⟩, ifa (h _) (h _)⟩
    · omega
section
variable {a b d c e f : Int} {n m : Nat}
theorem e_order (g : Gs n a b d) (k : Gs m c e f) (l : n + m + 1 ≤ 5000) (h : ∀ i, Q (.int i)) : tf__order ξ [T3 a b d, T3 c e f] Q := by
  refine ⟨rfl, e_need g.p ⟨rfl, e_need k.p ⟨rfl, rfl, g.ba.cmul k.bd (by omega), k.ba.cmul g.bd (by omega), g.bb.cmul k.bd (by omega), k.bb.cmul g.bd (by omega), rfl, ?_⟩⟩⟩
  refine e_sop (n := n + m + 1) ?_ ?_ l h
  · exact (((g.ba.mul k.bd).mono (by omega)).sub ((k.ba.mul g.bd).mono (by omega)) : Bd (n + m + 1) _)
  · exact (((g.bb.mul k.bd).mono (by omega)).sub ((k.bb.mul g.bd).mono (by omega)) : Bd (n + m + 1) _)
theorem e_below (g : Gs n a b d) (k : Gs m c e f) (l : n + m + 1 ≤ 5000) (h : ∀ v, Q v) : tf_is_below ξ [T3 a b d, T3 c e f] Q := ⟨rfl, e_order g k l fun i => h _⟩
theorem e_equal (g : Gs n a b d) (k : Gs m c e f) (l : n + m + 1 ≤ 5000) (h : ∀ v, Q v) : tf_are_equal ξ [T3 a b d, T3 c e f] Q := ⟨rfl, e_order g k l fun i => h _⟩
theorem e_sign (g : Gs n a b d) (l : n ≤ 5000) (h : ∀ v, Q v) : tf_sign ξ [T3 a b d] Q := ⟨rfl, e_need g.p ⟨rfl, e_sop g.ba g.bb l fun i => h _⟩⟩
theorem e_ibelow (g : Gs n a b d) (l : n ≤ 5000) (h : ∀ i, Q (.int i)) : tf_integer_below ξ [T3 a b d] Q := by
  have h5 : Bd (n + 3) (5 * b) := (Bd.mul (n := 3) Bd.lit g.bb).mono (by omega)
  have sq : 0 ≤ 5 * b * b := by
    rw [Int.mul_assoc]
    have : 0 ≤ b * b := by
      rcases Int.le_total 0 b with q | q
      · exact Int.mul_nonneg q q
      · have := Int.mul_nonneg (a := -b) (b := -b) (by omega) (by omega)
        rwa [Int.neg_mul_neg] at this
    omega
  have lg : (5 * b * b).toNat.log2 < 13500 := by
    have h : Bd (n + 3 + n) (5 * b * b) := h5.mul g.bb
    have e : (5 * b * b).toNat = (5 * b * b).natAbs := by omega
    rw [e]
    exact PySem.Flt.log2_lt_of (by decide) (h.mono (m := 13500) (by omega))
  have hd : Bd (n + 2) (2 * d) := (Bd.mul (n := 2) Bd.lit g.bd).mono (by omega)
  have fin : ∀ r : Int, CMulW 2 a ∧ CMulW 2 d ∧ CDivB (2 * a + b + r) (2 * d) ∧ Q (.int ((2 * a + b + r).fdiv (2 * d))) := fun r => ⟨Bd.cmul (n := 2) Bd.lit g.ba (by omega), Bd.cmul (n := 2) Bd.lit g.bd (by omega), ⟨by have := g.p; omega, .inr (log_sm hd (by omega))⟩, h _⟩
  refine ⟨rfl, e_need g.p ⟨rfl, Bd.cmul (n := 3) Bd.lit g.bb (by omega), h5.cmul g.bb (by omega), ⟨sq, lg⟩, fun r _ _ _ => ?_⟩⟩
  exact ifd (fun _ => fin _) (fun _ => fin _)
theorem e_iabove (g : Gs n a b d) (l : n ≤ 5000) (h : ∀ v, Q v) : tf_integer_above ξ [T3 a b d] Q :=
  ⟨rfl, e_need g.p ⟨rfl, szN 3, rfl, e_ibelow (a := -a) (b := -b) (d := d) ⟨g.ba.neg, g.bb.neg, g.bd, g.p⟩ l fun i => h _⟩⟩
theorem e_whole (g : 1 ≤ d) (h : Q (.bl (decide (a % d = 0) && decide (b % d = 0)))) : tf_is_whole ξ [T3 a b d] Q := by
  have d0 : 0 < d := by omega
  refine ⟨rfl, e_need g ⟨rfl, d0, ?_⟩⟩
  show (if decide (a % d = 0) = true then _ else _)
  cases e : decide (a % d = 0) with
  | false => rw [e] at h; exact h
  | true => rw [e] at h; exact ⟨d0, h⟩
end
/-! ### texts -/
theorem szL (n : Nat) (h : n < 1000 := by decide) : n < sizeLine := by rw [sizeLine_eq]; omega
theorem len_app (a b : Str) : (a ++ b).length = a.length + b.length := PySem.Str.length_append a b
theorem join1 (x : Str) : Txt.join "" [x] = x := by
  show Builtin.Str.glued "" [x] = x
  rw [StrLaws.glued_eq_join]
  rfl
theorem join2 (x y : Str) : (Txt.join "" [x, y]).length = x.length + y.length := by
  show (Builtin.Str.glued "" [x, y]).length = _
  rw [StrLaws.glued_eq_join]
  show (x ++ ("" : Str) ++ y).length = _
  rw [len_app, len_app]
  rfl
theorem e_block (q : Q (.int (((10 : Int) ^ (64 : Int).toNat) ^ (8 : Int).toNat))) : tf__block ξ [] Q := ⟨⟨by decide, by decide +kernel⟩, ⟨by decide, by decide +kernel⟩, q⟩
theorem e_itext {i : Int} (hi : Bd 1600 i) (h : ∀ t : Str, t.length ≤ 600 → Q (.str t)) : tf_integer_text ξ [.int i] Q := by
  refine ⟨rfl, e_block ⟨szN 0, 1, ?_⟩⟩
  generalize hr : (if i < 0 then -i else i) = r
  have br : Bd 1600 r := by
    rw [← hr]
    split
    · exact hi.neg
    · exact hi
  have nb : ¬ r ≥ ((10 : Int) ^ (64 : Int).toNat) ^ (8 : Int).toNat := by
    have p : (2 : Nat) ^ 1600 ≤ 10 ^ 512 := by decide +kernel
    have e : ((10 : Int) ^ (64 : Int).toNat) ^ (8 : Int).toNat = ((10 ^ 512 : Nat) : Int) := by decide +kernel
    rw [e]
    unfold Bd at br
    generalize (10 : Nat) ^ 512 = z at *
    generalize (2 : Nat) ^ 1600 = y at *
    omega
  have lg : r.natAbs.log2 < 1920 := PySem.Flt.log2_lt_of (by decide) (br.mono (m := 1920) (by decide))
  have h10 : r.natAbs < 10 ^ 512 := Nat.lt_of_lt_of_le br (by decide +kernel)
  have l := int_text_length_le10 (k := 512) (by decide) h10
  have l2 : (Str.ofString (toString r)).length ≤ 514 := by rw [PySem.ofString_length]; omega
  have fin1 : ∀ x : Str, x.length ≤ 514 → ([x].map (·.length)).sum + 1 * ("" : Str).length ≤ 16777216 ∧ Q (.str (Txt.join "" [x])) := by
    intro x h1
    refine ⟨?_, h _ (by rw [join1]; omega)⟩
    show x.length + 0 + 1 * 0 ≤ 16777216
    omega
  have fin2 : ∀ x y : Str, x.length ≤ 1 → y.length ≤ 514 → ([x, y].map (·.length)).sum + 2 * ("" : Str).length ≤ 16777216 ∧ Q (.str (Txt.join "" [x, y])) := by
    intro x y h1 h2
    refine ⟨?_, h _ (by rw [join2]; omega)⟩
    show x.length + (y.length + 0) + 2 * 0 ≤ 16777216
    omega
  show (if decide (r ≥ ((10 : Int) ^ (64 : Int).toNat) ^ (8 : Int).toNat) = true then _ else _)
  rw [decide_eq_false nb]
  refine ⟨lg, szL 0, ?_⟩
  refine ifd (fun _ => ?_) (fun _ => ?_)
  · refine ⟨szL 1, ?_⟩
    exact fin2 "-" (Str.ofString (toString r)) (by decide) l2
  · exact fin1 (Str.ofString (toString r)) l2
theorem str_len {a b : Str} {n m : Nat} (h : a.length ≤ n) (g : b.length ≤ m) (l : n + m ≤ 100000 := by decide) : a.length + b.length ≤ sizeLine ∧ (a ++ b).length ≤ n + m := by
  rw [len_app, sizeLine_eq]
  omega
section
variable {De : DEnds} {ζ : XW} {s0 s5 : Slot} {x y z : Int} {m : Str}
theorem nt_rest (bx : Bd 1600 x) (by_ : Bd 1600 y) (bz : Bd 1600 z) (hm : m.length ≤ 1) (h : ∀ v, De.rt v) : (dSeq (dAsg (dBin gAddS (dBin gAddS (dBin gAddS (dCall 1 tf_integer_text (dCons (dVar 1) dNil)) (dVar 4)) (dCall 1 tf_integer_text (dCons (dCB gAbs (dCons (dVar 2) dNil)) dNil))) (dC (.str "g"))) (dgName 5))
    (dRet (dIf (dTest (dBin gEq (dVar 3) (dC (.int 1)))) (dVar 5) (dBin gAddS (dBin gAddS (dVar 5) (dC (.str "/"))) (dCall 1 tf_integer_text (dCons (dVar 3) dNil)))))) ζ De [s0, .d (.int x), .d (.int y), .d (.int z), .d (.str m), s5] := by
  have ab : Bd 1600 (if y < 0 then -y else y) := by split; exact by_.neg; exact by_
  refine ⟨rfl, e_itext bx fun t1 l1 => ?_⟩
  have k1 := str_len l1 hm
  refine ⟨k1.1, rfl, e_itext ab fun t2 l2 => ?_⟩
  have k2 := str_len k1.2 l2
  have k3 := str_len (b := "g") (m := 1) k2.2 (by decide)
  refine ⟨k2.1, k3.1, ?_⟩
  refine ifd (fun _ => h _) (fun _ => ?_)
  have k4 := str_len (b := "/") (m := 1) k3.2 (by decide)
  refine ⟨k4.1, rfl, e_itext bz fun t3 l3 => ?_⟩
  exact ⟨(str_len k4.2 l3).1, h _⟩
end
theorem e_ntext {n : Nat} {a b d : Int} (g : Gs n a b d) (l : n ≤ 1500) (h : ∀ v, Q v) : tf_number_text ξ [T3 a b d] Q := by
  refine ⟨rfl, e_reduced g (by omega) fun x y z _ _ g' => ⟨rfl, ?_⟩⟩
  refine ifd (fun _ => ?_) (fun _ => ?_)
  · exact nt_rest (g'.ba.mono (by omega)) (g'.bb.mono (by omega)) (g'.bd.mono (by omega)) (by decide) h
  · exact nt_rest (g'.ba.mono (by omega)) (g'.bb.mono (by omega)) (g'.bd.mono (by omega)) (by decide) h
end K10
set_option Elab.async false
set_option linter.all false
set_option maxHeartbeats 400000
set_option maxRecDepth 100000
namespace K10
open PySem PySem.Spec L2 DL
/-! ### any value in the place of a number -/
structure Vx (x : D) : Prop where
  ty : Ty x
  b : ∀ a b d, x = T3 a b d → Bd 400 a ∧ Bd 400 b ∧ Bd 400 d
theorem nope {p : Prop} {b : Bool} (h : b = false) : b = true → p := fun z => by rw [h] at z; cases z
section
variable {x y : D} {X : DX → Prop} {P : D → Prop} {R : Prop}
theorem byG {T : TF} (v : Vx x) (c1 : isG x = false → X ⟨"BadNumber", [("thing", x)]⟩) (c3 : isG x = true → R) (h1 : X ⟨"BadNumber", [("thing", x)]⟩ → isG x = false → T X [x] P) (h2 : ∀ a b d, Gs 400 a b d → R → T X [T3 a b d] P) : T X [x] P := by
  cases h : isG x with
  | false => exact h1 (c1 h) h
  | true =>
    obtain ⟨a, b, d, rfl, hd⟩ := isG_of h
    obtain ⟨p, q, r⟩ := v.b a b d rfl
    exact h2 a b d ⟨p, q, r, hd⟩ (c3 h)
theorem byG2 {T : TF} (v : Vx x) (u : Vx y) (c1 : isG x = false → X ⟨"BadNumber", [("thing", x)]⟩) (c2 : isG x = true → isG y = false → X ⟨"BadNumber", [("thing", y)]⟩) (c3 : isG x = true → isG y = true → R)
    (h1 : X ⟨"BadNumber", [("thing", x)]⟩ → isG x = false → T X [x, y] P) (h2 : ∀ a b d, Gs 400 a b d → X ⟨"BadNumber", [("thing", y)]⟩ → isG y = false → T X [T3 a b d, y] P)
    (h3 : ∀ a b d c e f, Gs 400 a b d → Gs 400 c e f → y = T3 c e f → R → T X [T3 a b d, T3 c e f] P) : T X [x, y] P := by
  cases h : isG x with
  | false => exact h1 (c1 h) h
  | true =>
    have k2 := c2 h
    have k3 := c3 h
    clear c1 c2 c3
    obtain ⟨a, b, d, rfl, hd⟩ := isG_of h
    obtain ⟨p, q, r⟩ := v.b a b d rfl
    cases g : isG y with
    | false => exact h2 a b d ⟨p, q, r, hd⟩ (k2 g) g
    | true =>
      have k4 := k3 g
      clear k2 k3
      obtain ⟨c, e, f, rfl, hf⟩ := isG_of g
      obtain ⟨p', q', r'⟩ := u.b c e f rfl
      exact h3 a b d c e f ⟨p, q, r, hd⟩ ⟨p', q', r', hf⟩ rfl k4
variable (v : Vx x) (u : Vx y) (c1 : isG x = false → X ⟨"BadNumber", [("thing", x)]⟩)
include v c1
theorem F_reduced (c3 : isG x = true → ∀ d, P d) : tf_reduced X [x] P := byG v c1 c3 (fun k h => ⟨rfl, e_needX v.ty (fun _ => k) (nope h)⟩) fun a b d g k => e_reduced g (by decide) fun _ _ _ _ _ _ => k _
theorem F_sign (c3 : isG x = true → ∀ d, P d) : tf_sign X [x] P := byG v c1 c3 (fun k h => ⟨rfl, e_needX v.ty (fun _ => k) (nope h)⟩) fun a b d g k => e_sign g (by decide) k
theorem F_ibelow (c3 : isG x = true → ∀ d, P d) : tf_integer_below X [x] P := byG v c1 c3 (fun k h => ⟨rfl, e_needX v.ty (fun _ => k) (nope h)⟩) fun a b d g k => e_ibelow g (by decide) fun i => k _
theorem F_iabove (c3 : isG x = true → ∀ d, P d) : tf_integer_above X [x] P := byG v c1 c3 (fun k h => ⟨rfl, e_needX v.ty (fun _ => k) (nope h)⟩) fun a b d g k => e_iabove g (by decide) k
theorem F_whole (c3 : isG x = true → ∀ d, P d) : tf_is_whole X [x] P := byG v c1 c3 (fun k h => ⟨rfl, e_needX v.ty (fun _ => k) (nope h)⟩) fun a b d g k => e_whole g.p (k _)
theorem F_conj (c3 : isG x = true → ∀ d, P d) : tf_conjugate X [x] P := byG v c1 c3 (fun k h => ⟨rfl, e_needX v.ty (fun _ => k) (nope h)⟩) fun a b d g k => e_conj g (by decide) k
theorem F_ntext (c3 : isG x = true → ∀ d, P d) : tf_number_text X [x] P := byG v c1 c3 (fun k h => ⟨rfl, rfl, e_needX v.ty (fun _ => k) (nope h)⟩) fun a b d g k => e_ntext g (by decide) k
include u
theorem F_plus (c2 : isG x = true → isG y = false → X ⟨"BadNumber", [("thing", y)]⟩) (c3 : isG x = true → isG y = true → ∀ d, P d) : tf_plus X [x, y] P :=
  byG2 v u c1 c2 c3 (fun k h => ⟨rfl, e_needX v.ty (fun _ => k) (nope h)⟩) (fun a b d g k h => ⟨rfl, e_need g.p ⟨rfl, e_needX u.ty (fun _ => k) (nope h)⟩⟩) fun a b d c e f g g' _ k => e_plus g g' (by decide) fun _ _ _ _ _ _ => k _
theorem F_minus (c2 : isG x = true → isG y = false → X ⟨"BadNumber", [("thing", y)]⟩) (c3 : isG x = true → isG y = true → ∀ d, P d) : tf_minus X [x, y] P :=
  byG2 v u c1 c2 c3 (fun k h => ⟨rfl, e_needX v.ty (fun _ => k) (nope h)⟩) (fun a b d g k h => ⟨rfl, e_need g.p ⟨rfl, e_needX u.ty (fun _ => k) (nope h)⟩⟩) fun a b d c e f g g' _ k => e_minus g g' (by decide) fun _ _ _ _ _ _ => k _
theorem F_times (c2 : isG x = true → isG y = false → X ⟨"BadNumber", [("thing", y)]⟩) (c3 : isG x = true → isG y = true → ∀ d, P d) : tf_times X [x, y] P :=
  byG2 v u c1 c2 c3 (fun k h => ⟨rfl, e_needX v.ty (fun _ => k) (nope h)⟩) (fun a b d g k h => ⟨rfl, e_need g.p ⟨rfl, e_needX u.ty (fun _ => k) (nope h)⟩⟩) fun a b d c e f g g' _ k => e_times g.ba g.bb g.bd g.p g'.ba g'.bb g'.bd g'.p (by decide) (by decide) fun _ _ _ _ _ _ _ _ => k _
theorem F_below (c2 : isG x = true → isG y = false → X ⟨"BadNumber", [("thing", y)]⟩) (c3 : isG x = true → isG y = true → ∀ d, P d) : tf_is_below X [x, y] P :=
  byG2 v u c1 c2 c3 (fun k h => ⟨rfl, rfl, e_needX v.ty (fun _ => k) (nope h)⟩) (fun a b d g k h => ⟨rfl, rfl, e_need g.p ⟨rfl, e_needX u.ty (fun _ => k) (nope h)⟩⟩) fun a b d c e f g g' _ k => e_below g g' (by decide) k
theorem F_equal (c2 : isG x = true → isG y = false → X ⟨"BadNumber", [("thing", y)]⟩) (c3 : isG x = true → isG y = true → ∀ d, P d) : tf_are_equal X [x, y] P :=
  byG2 v u c1 c2 c3 (fun k h => ⟨rfl, rfl, e_needX v.ty (fun _ => k) (nope h)⟩) (fun a b d g k h => ⟨rfl, rfl, e_need g.p ⟨rfl, e_needX u.ty (fun _ => k) (nope h)⟩⟩) fun a b d c e f g g' _ k => e_equal g g' (by decide) k
end
/-- is it zero? -/
def isZ : D → Bool
  | .tup [.int a, .int b, .int _] => decide (a = 0) && decide (b = 0)
  | _ => false
theorem F_quot {x y : D} {X : DX → Prop} {P : D → Prop} (v : Vx x) (u : Vx y) (c1 : isG x = false → X ⟨"BadNumber", [("thing", x)]⟩) (c2 : isG x = true → isG y = false → X ⟨"BadNumber", [("thing", y)]⟩)
    (c3 : isG x = true → isG y = true → (isZ y = true → X ⟨"DividedByZero", []⟩) ∧ (isZ y = false → ∀ d, P d)) : tf_quotient X [x, y] P :=
  byG2 v u c1 c2 c3 (fun k h => ⟨rfl, e_needX v.ty (fun _ => k) (nope h)⟩) (fun a b d g k h => ⟨rfl, e_need g.p ⟨rfl, e_needX u.ty (fun _ => k) (nope h)⟩⟩) fun a b d c e f g g' ey k => by
    subst ey
    refine e_quotient g g' (by decide) (fun z => k.1 ?_) fun z d => k.2 ?_ d
    · show (decide (c = 0) && decide (e = 0)) = true
      rw [decide_eq_true z.1, decide_eq_true z.2]; rfl
    · show (decide (c = 0) && decide (e = 0)) = false
      rw [Bool.and_eq_false_iff]
      by_cases h : c = 0
      · exact .inr (decide_eq_false fun h2 => z ⟨h, h2⟩)
      · exact .inl (decide_eq_false h)
end K10
set_option Elab.async false
set_option linter.all false
set_option maxHeartbeats 1000000
set_option maxRecDepth 100000
namespace K10
open PySem PySem.Spec L2 DL
variable {ξ : XT} {Q : D → Prop}
/-! ### values with their weights -/
mutual
def bndb : D → Bool
  | .int i => decide (i.natAbs < 2 ^ 345)
  | .tup ds => bndbs ds
  | .lst ds => bndbs ds
  | _ => true
def bndbs : List D → Bool
  | [] => true
  | d :: ds => bndb d && bndbs ds
end
theorem bndbs_mem : ∀ {ds : List D}, bndbs ds = true → ∀ d ∈ ds, bndb d = true
  | [], _, _, m => by cases m
  | x :: ds, h, d, m => by
    obtain ⟨h1, h2⟩ := Bool.and_eq_true_iff.mp (show (bndb x && bndbs ds) = true from h)
    rcases List.mem_cons.mp m with rfl | m
    · exact h1
    · exact bndbs_mem h2 d m
theorem bndbs_of : ∀ {ds : List D}, (∀ d ∈ ds, bndb d = true) → bndbs ds = true
  | [], _ => rfl
  | x :: ds, h => by
    show (bndb x && bndbs ds) = true
    rw [h x List.mem_cons_self, bndbs_of fun d m => h d (List.mem_cons_of_mem _ m)]; rfl
/-- a value with its weight -/
structure Vd (w k : Nat) (d : D) : Prop where
  g : Gd w k d
  b : bndb d = true
theorem Vd.mono {w k w' k' : Nat} {d : D} (v : Vd w k d) (h : w ≤ w' := by decide) (h' : k ≤ k' := by decide) : Vd w' k' d := ⟨v.g.mono h h', v.b⟩
theorem gd_int' {i : Int} (h : Bd 345 i) : Gd 110 0 (.int i) := by
  have h10 : i.natAbs < 10 ^ 104 := Nat.lt_of_lt_of_le h (by decide +kernel)
  have l := int_text_length_le10 (k := 104) (by decide) h10
  refine ⟨rfl, ?_, ?_, ?_, cs_of _, fun _ h => by cases h⟩
  · simp only [toP, PyData.showable]
    exact decide_eq_true (PySem.Flt.log2_lt_of (by decide) (h.mono (m := 1920) (by decide)))
  · simp only [toP, PyData.depth]; decide
  · show (Str.ofString (toString i)).length ≤ 110
    rw [PySem.ofString_length]
    omega
theorem vd_int {i : Int} (h : Bd 345 i) : Vd 110 0 (.int i) := ⟨gd_int' h, decide_eq_true h⟩
theorem vd_tup {w k n : Nat} {ds : List D} (h : ∀ d ∈ ds, Vd w k d) (hl : ds.length ≤ n) (hn : n ≤ 1000 := by decide) : Vd ((w + 2) * n + 4) (k + 1) (.tup ds) :=
  ⟨gd_tup (fun d m => (h d m).g) hl hn, bndbs_of fun d m => (h d m).b⟩
theorem vd_lst {w k n : Nat} {ds : List D} (h : ∀ d ∈ ds, Vd w k d) (hl : ds.length ≤ n) (hn : n ≤ 1000 := by decide) : Vd ((w + 2) * n + 4) (k + 1) (.lst ds) :=
  ⟨gd_lst (fun d m => (h d m).g) hl hn, bndbs_of fun d m => (h d m).b⟩
def lenB : D → Bool
  | .tup ds => decide (ds.length ≤ 1000)
  | .lst ds => decide (ds.length ≤ 1000)
  | _ => true
theorem lenB_le {d : D} (h : lenB d = true) : ∀ ds, seqOf d = some ds → ds.length ≤ 1000 := by
  intro ds e
  cases d <;> first | (cases e; done) | (cases e; exact of_decide_eq_true h)
def okC (d : D) : Bool := plainR d && (toP d).showable && decide ((toP d).depth ≤ 3) && decide ((toP d).shown.length ≤ 800) && (toP d).shown.cps.toList.all (fun c => decide (c < 16 ^ 8)) && lenB d && bndb d
theorem okC_vd {d : D} (h : okC d = true) : Vd 800 3 d := by
  unfold okC at h
  simp only [Bool.and_eq_true, decide_eq_true_eq, List.all_eq_true] at h
  obtain ⟨⟨⟨⟨⟨⟨h1, h2⟩, h3⟩, h4⟩, h5⟩, h6⟩, h7⟩ := h
  exact ⟨⟨h1, h2, h3, h4, h5, lenB_le h6⟩, h7⟩
theorem typed_of {d : D} (h : plainR d = true) : typed d = true := by cases d <;> first | rfl | cases h
theorem plainRs_all : ∀ {ds : List D}, plainRs ds = true → ∀ d ∈ ds, plainR d = true
  | [], _, d, m => by cases m
  | x :: ds, h, d, m => by
    obtain ⟨h1, h2⟩ := Bool.and_eq_true_iff.mp (show (plainR x && plainRs ds) = true from h)
    rcases List.mem_cons.mp m with rfl | m
    · exact h1
    · exact plainRs_all h2 d m
theorem Vd.vx {w k : Nat} {x : D} (v : Vd w k x) : Vx x := by
  constructor
  · have p := v.g.pl
    cases x with
    | tup ds => exact fun d m => typed_of (plainRs_all p d m)
    | deck => cases p
    | ty n => cases p
    | kt n => cases p
    | ins c f d => cases p
    | _ => trivial
  · rintro a b d rfl
    have z := v.b
    have z : (decide (a.natAbs < 2 ^ 345) && (decide (b.natAbs < 2 ^ 345) && (decide (d.natAbs < 2 ^ 345) && true))) = true := z
    simp only [Bool.and_eq_true, decide_eq_true_eq] at z
    have m : ∀ {i : Int}, i.natAbs < 2 ^ 345 → Bd 400 i := fun h => Bd.mono (n := 345) h (by decide)
    exact ⟨m z.1, m z.2.1, m z.2.2.1⟩
theorem vd_bl (b : Bool) : Vd 110 0 (.bl b) := ⟨(gd_bl b).mono (by decide) (by decide), rfl⟩
theorem vd_str {i : Int} (h : Bd 345 i) : Vd 1100 3 (.str (Str.ofString (toString i))) := by
  have h10 : i.natAbs < 10 ^ 104 := Nat.lt_of_lt_of_le h (by decide +kernel)
  have l := int_text_length_le10 (k := 104) (by decide) h10
  exact ⟨(gd_str (n := 105) (by rw [PySem.ofString_length]; omega) (cs_of _)).mono (by decide) (by decide), rfl⟩
/-! ### what is drawn -/
theorem e_draw {n : Int} (h0 : 0 < n) (h1 : n < 1000000000) (h : ∀ r, 0 ≤ r → r < n → Q (.int r)) : tf_draw ξ [.deck, .int n] Q := ⟨⟨h0, h1⟩, h⟩
theorem atI_mem {ds : List D} {r : Int} (h0 : 0 ≤ r) (h1 : r < ds.length) : ∃ d, atI ds r = some d ∧ d ∈ ds := by
  obtain ⟨n, rfl⟩ := Int.eq_ofNat_of_zero_le h0
  have hn : n < ds.length := by omega
  exact ⟨ds[n], atI_nat (List.getElem?_eq_getElem hn), List.getElem_mem hn⟩
theorem e_pick {ds : List D} (h0 : 0 < ds.length) (h1 : ds.length < 1000000000) (h : ∀ d ∈ ds, Q d) : tf__law_pick ξ [.deck, .lst ds] Q := by
  refine ⟨rfl, ⟨by omega, by omega⟩, fun r a b => ?_⟩
  obtain ⟨d, e, m⟩ := atI_mem a b
  show (match atI ds r with | some d => Q d | none => False)
  rw [e]
  exact h d m
theorem ix_any {ds : List D} {r : Int} (h0 : 0 ≤ r) (h1 : r < ds.length) (h : ∀ d ∈ ds, Q d) : gIx (.tup ds) (.int r) Q := by
  obtain ⟨d, e, m⟩ := atI_mem h0 h1
  show (match atI ds r with | some d => Q d | none => False)
  rw [e]
  exact h d m
theorem ints_cons (lo : Int) (n : Nat) : intsD lo (n + 1) = .int lo :: intsD (lo + 1) n := by
  unfold intsD
  rw [List.range_succ_eq_map, List.map_cons, List.map_map]
  congr 1
  · simp
  · apply List.map_congr_left
    intro i _
    show D.int (lo + ((i + 1 : Nat) : Int)) = D.int (lo + 1 + (i : Int))
    congr 1
    omega
theorem p6 (k : Nat) : (10 : Int) ^ (6 * k) < 2 ^ (20 * k) + 1 := by
  have h : (10 ^ (6 * k) : Nat) ≤ 2 ^ (20 * k) := by
    rw [Nat.pow_mul, Nat.pow_mul]
    exact Nat.pow_le_pow_left (by decide) k
  have : ((10 ^ (6 * k) : Nat) : Int) ≤ ((2 ^ (20 * k) : Nat) : Int) := Int.ofNat_le.mpr h
  rw [Int.natCast_pow, Int.natCast_pow] at this
  have e1 : ((10 : Nat) : Int) = 10 := rfl
  have e2 : ((2 : Nat) : Int) = 2 := rfl
  rw [e1, e2] at this
  omega
theorem bd_pow {x : Int} {k : Nat} (h0 : 0 ≤ x) (h : x < 10 ^ (6 * k)) : Bd (20 * k) x := by
  have := p6 k
  unfold Bd
  have e : ((2 ^ (20 * k) : Nat) : Int) = 2 ^ (20 * k) := by rw [Int.natCast_pow]; rfl
  omega
theorem bd_face {f x : Int} {n : Nat} (hf : f = 1 ∨ f = -1) (h : Bd n x) : Bd n (f * x) := by
  rcases hf with rfl | rfl
  · rw [Int.one_mul]; exact h
  · rw [Int.neg_one_mul]; exact h.neg
theorem loop_int {ξ : XW} {De : DEnds} {x1 x2 x3 : Slot} : ∀ (n i : Nat) (f : Int) (s : Slot) (lo : Int), 0 ≤ f → f < 10 ^ (6 * i) → i + n ≤ 200 → (∀ f s, 0 ≤ f → f < 10 ^ (6 * (i + n)) → De.nx [.d .deck, x1, x2, x3, .d (.int f), s]) →
    forD (dgName 5) (dAsg (dBin gAddA (dBin gMulA (dVar 4) (dBin gPow (dC (.int 10)) (dC (.int 6)))) (dCall 2 tf_draw (dCons (dVar 0) (dCons (dBin gPow (dC (.int 10)) (dC (.int 6))) dNil)))) (dgName 4)) ξ De (intsD lo n) [.d .deck, x1, x2, x3, .d (.int f), s]
  | 0, i, f, s, lo, h0, h1, _, h => h f s h0 h1
  | n + 1, i, f, s, lo, h0, h1, hl, h => by
    rw [ints_cons]
    have pw : CPow 10 6 := ⟨by decide, by decide, by decide⟩
    have bf : Bd 4000 f := (bd_pow h0 h1).mono (by omega)
    refine ⟨pw, bf.cmul (Bd.mono (n := 20) Bd.lit (by decide) : Bd 20 ((10 : Int) ^ (6 : Int).toNat)), pw, rfl, e_draw (by decide) (by decide) fun r r0 r1 => ?_⟩
    refine loop_int n (i + 1) _ _ _ ?_ ?_ (by omega) (by rw [show i + 1 + n = i + (n + 1) by omega]; exact h)
    · have : (10 : Int) ^ (6 : Int).toNat = 1000000 := rfl
      rw [this] at r1 ⊢
      omega
    · have e1 : (10 : Int) ^ (6 : Int).toNat = 1000000 := rfl
      rw [e1] at r1 ⊢
      rw [show 6 * (i + 1) = 6 * i + 6 by omega, Int.pow_add]
      generalize (10 : Int) ^ (6 * i) = z at *
      show f * 1000000 + r < z * 1000000
      omega
theorem e_integer {k : Nat} (h0 : 1 ≤ k) (h1 : k ≤ 166) (h : ∀ x, Bd (20 * k) x → Q (.int x)) : tf__law_integer ξ [.deck, .int (k : Int)] Q := by
  have bk : Bd 10 (k : Int) := by unfold Bd; omega
  refine ⟨rfl, e_draw (by decide) (by decide) fun w w0 w1 => ⟨rfl, e_draw (by decide) (by decide) fun f f0 f1 => ⟨Bd.cmul (n := 2) Bd.lit (bd_small (n := 2) (m := 2) f0 f1), ?_⟩⟩⟩
  have hf : 1 - 2 * f = 1 ∨ 1 - 2 * f = -1 := by omega
  have bf : Bd 2 (1 - 2 * f) := by rcases hf with e | e <;> rw [e] <;> exact Bd.lit
  refine ifd (fun hw => ?_) (fun hw => ?_)
  · refine ⟨sz (n := 6) (by decide), ix_any w0 hw ?_⟩
    intro d hd
    obtain ⟨m, rfl, m0, m1⟩ : ∃ m : Int, d = .int m ∧ 0 < m ∧ m ≤ 1000 := by
      simp only [List.mem_cons, List.not_mem_nil, or_false] at hd
      rcases hd with rfl | rfl | rfl | rfl | rfl | rfl <;> exact ⟨_, rfl, by decide, by decide⟩
    refine ⟨rfl, e_draw m0 (by omega) fun r r0 r1 => ?_⟩
    have br : Bd 10 r := by unfold Bd; omega
    exact ⟨bf.cmul br, h _ ((bd_face hf br).mono (by omega))⟩
  · refine ifd (fun hw6 => ?_) (fun hw6 => ?_)
    · refine ⟨Bd.cmul (n := 3) Bd.lit bk, ⟨by omega, by omega⟩, rfl, e_draw (by decide) (by decide) fun r r0 r1 => ?_⟩
      have e : (6 * (k : Int)).toNat = 6 * k := by omega
      rw [e]
      have l : (1000000 : Int) ≤ 10 ^ (6 * k) := by
        have : (10 ^ 6 : Nat) ≤ 10 ^ (6 * k) := Nat.pow_le_pow_right (by decide) (by omega)
        have := Int.ofNat_le.mpr this
        rw [Int.natCast_pow, Int.natCast_pow] at this
        exact this
      have b : Bd (20 * k) (10 ^ (6 * k) - 1 - r) := bd_pow (by omega) (by omega)
      exact ⟨bf.cmul (b.mono (m := 4000) (by omega)), h _ (bd_face hf b)⟩
    · refine ⟨rfl, e_draw (by omega) (by omega) fun r r0 r1 => ⟨⟨by omega, by omega⟩, ?_⟩⟩
      refine loop_int _ 0 0 _ 0 (Int.le_refl _) (by decide) (by omega) ?_
      intro x s x0 x1
      have b : Bd (20 * k) x := bd_pow x0 (Int.lt_of_lt_of_le x1 (by
        have : (10 ^ (6 * (0 + (1 + r).toNat)) : Nat) ≤ 10 ^ (6 * k) := Nat.pow_le_pow_right (by decide) (by omega)
        have := Int.ofNat_le.mpr this
        rw [Int.natCast_pow, Int.natCast_pow] at this
        exact this))
      exact ⟨bf.cmul (b.mono (m := 4000) (by omega)), h _ (bd_face hf b)⟩
end K10
set_option Elab.async false
set_option linter.all false
set_option maxHeartbeats 1000000
set_option maxRecDepth 100000
namespace K10
open PySem PySem.Spec L2 DL
variable {ξ : XT} {Q : D → Prop}
def N100 : Int := 10 ^ (100 : Int).toNat - 1
def C1 : List D := [.non, .bl true, .bl false, .int 0, .int 1, .int (-1), .int 2, .str "", .str "0+0g", .tup [], .tup [.tup []], .lst [], .dct [] [], .tup [.int 0], .tup [.int 0, .int 1], .lst [.int 0, .int 1, .int 1], .tup [.int 1, .int 0], .int N100]
def C2 : List D := [.str "1\n~", .dct [.inr "a"] [.tup [.int 1, .int 2, .int 3]], .tup [.tup [.int 0, .int 1], .int 1, .int 1], T3 0 0 0, .tup [.int 0, .int 1, .int 1, .int 1], .tup [.non, .int 0, .int 1], T3 1 2 (-3), .tup [.int 1, .int 2, .bl true]]
def C3 : List D := [.tup [.bl false, .int 0, .int 1], .tup [.int 1, .str "0", .int 1], T3 1 2 0, T3 0 0 (-1), .tup [.lst [.int 1], .int 2, .int 3], .tup [.int 1, .int 2, .non], .int (-N100), .str "1+1g"]
theorem okCs : (C1 ++ C2 ++ C3).all okC = true := by decide +kernel
theorem c_vd {d : D} (h : d ∈ C1 ++ C2 ++ C3) : Vd 1100 3 d := (okC_vd (List.all_eq_true.mp okCs d h)).mono
theorem vd_one {d : D} (h : Vd 110 0 d) : Vd 1100 3 (.lst [d]) ∧ Vd 1100 3 (.tup [d]) := by
  have z : ∀ e ∈ [d], Vd 110 0 e := fun e m => by simp at m; subst m; exact h
  exact ⟨(vd_lst z (n := 1) (Nat.le_refl 1)).mono, (vd_tup z (n := 1) (Nat.le_refl 1)).mono⟩
theorem N1 : (2 : Int) ≤ 100 ∧ (100 : Int) ≤ 4300 := by decide
theorem e_oddI {i : Int} (hi : Bd 340 i) (h : ∀ d, Vd 1100 3 d → Q d) : tf__law_odd ξ [.deck, .int i] Q := by
  have l : i.natAbs.log2 < 1920 := PySem.Flt.log2_lt_of (by decide) (hi.mono (m := 1920) (by decide))
  refine ⟨szN 0, szN 0, szN 1, szN 0, szN 1, szN 2, szN 3, szN 2, N1, szN 18,
    szN 3, szN 2, szN 3, szN 3, szN 4, szN 3, szN 3, szN 3, szN 8, szN 26,
    szN 3, szN 3, szN 3, szN 3, szN 1, szN 3, szN 3, N1, szN 8, szN 34, rfl, rfl, szN 1, szN 1, l, hi.cmul (m := 2) Bd.lit, szN 7, ⟨by decide, by decide, szN 21⟩, szN 55, rfl, ?_⟩
  show tf__law_pick (fun _ => False) [.deck, .lst ((C1 ++ C2 ++ C3) ++ (List.replicate 3 [.bl (decide (i = 1)), .lst [.int i], .tup [.int i], .str (Str.ofString (toString i)), .int (i * 2), .int (-i), .int (-1 - (if i < 0 then -i else i))]).flatten)] Q
  refine e_pick (by show 0 < 55; decide) (by show 55 < 1000000000; decide) fun d m => h d ?_
  rcases List.mem_append.mp m with m | m
  · exact c_vd m
  have v := vd_one (vd_int (hi.mono (by decide)))
  have ab : Bd 340 (if i < 0 then -i else i) := by split; exact hi.neg; exact hi
  simp only [List.replicate, List.flatten_cons, List.flatten_nil, List.append_nil, List.mem_append, List.mem_cons, List.not_mem_nil, or_false] at m
  have key : ∀ d, (d = .bl (decide (i = 1)) ∨ d = .lst [.int i] ∨ d = .tup [.int i] ∨ d = .str (Str.ofString (toString i)) ∨ d = .int (i * 2) ∨ d = .int (-i) ∨ d = .int (-1 - (if i < 0 then -i else i))) → Vd 1100 3 d := by
    rintro d (rfl | rfl | rfl | rfl | rfl | rfl | rfl)
    · exact (vd_bl _).mono
    · exact v.1
    · exact v.2
    · exact vd_str (hi.mono (by decide))
    · exact (vd_int ((hi.mul (j := 2) (m := 2) Bd.lit).mono (by decide))).mono
    · exact (vd_int (hi.neg.mono (by decide))).mono
    · have m1 : Bd 340 (-1 : Int) := (Bd.lit (by decide) : Bd 2 (-1)).mono (by decide)
      exact (vd_int ((m1.sub ab).mono (by decide))).mono
  rcases m with m | m | m <;> exact key d m
structure B3 (a b d : Int) : Prop where
  a : Bd 340 a
  b : Bd 340 b
  d : Bd 340 d
theorem B3.parts {a b d : Int} (h : B3 a b d) : Vd 110 0 (.int a) ∧ Vd 110 0 (.int b) ∧ Vd 110 0 (.int d) := ⟨vd_int (h.a.mono (by decide)), vd_int (h.b.mono (by decide)), vd_int (h.d.mono (by decide))⟩
theorem B3.vd {a b d : Int} (h : B3 a b d) : Vd 340 1 (T3 a b d) := by
  obtain ⟨p, q, r⟩ := h.parts
  exact (vd_tup (n := 3) (w := 110) (k := 0) (ds := [.int a, .int b, .int d]) (by
    simp only [List.mem_cons, List.not_mem_nil, or_false, forall_eq_or_imp, forall_eq]
    exact ⟨p, q, r⟩) (Nat.le_refl 3)).mono
theorem e_oddT {a b d : Int} (hb : B3 a b d) (h : ∀ d, Vd 1100 3 d → Q d) : tf__law_odd ξ [.deck, T3 a b d] Q := by
  refine ⟨szN 0, szN 0, szN 1, szN 0, szN 1, szN 2, szN 3, szN 2, N1, szN 18,
    szN 3, szN 2, szN 3, szN 3, szN 4, szN 3, szN 3, szN 3, szN 8, szN 26,
    szN 3, szN 3, szN 3, szN 3, szN 1, szN 3, szN 3, N1, szN 8, szN 34, rfl, szN 1, szN 4, szN 1, szN 1, szN 3, szN 5, szN 3, szN 8, ⟨by decide, by decide, szN 16⟩, szN 50, rfl, ?_⟩
  show tf__law_pick (fun _ => False) [.deck, .lst ((C1 ++ C2 ++ C3) ++ (List.replicate 2 [.lst [.int a, .int b, .int d], .tup [.int a, .int b, .int d, .int 1], .tup [.int b, .int d], .tup [.int a, .int b], .tup [T3 a b d], .tup [.int a, .int b, .int 0], .tup [.int a, .int b, .int a, .int b, .int d], .tup [T3 a b d, T3 a b d, T3 a b d]]).flatten)] Q
  refine e_pick (by show 0 < 50; decide) (by show 50 < 1000000000; decide) fun x m => h x ?_
  rcases List.mem_append.mp m with m | m
  · exact c_vd m
  obtain ⟨p, q, r⟩ := hb.parts
  have o : Vd 110 0 (.int 1) := vd_int (.lit (by decide))
  have z : Vd 110 0 (.int 0) := vd_int (.lit (by decide))
  simp only [List.replicate, List.flatten_cons, List.flatten_nil, List.append_nil, List.mem_append, List.mem_cons, List.not_mem_nil, or_false] at m
  have tp : ∀ {l : List D}, (∀ d ∈ l, Vd 110 0 d) → l.length ≤ 5 → Vd 1100 3 (.tup l) := fun g hl => (vd_tup (n := 5) g hl).mono
  have key : ∀ x, (x = .lst [.int a, .int b, .int d] ∨ x = .tup [.int a, .int b, .int d, .int 1] ∨ x = .tup [.int b, .int d] ∨ x = .tup [.int a, .int b] ∨ x = .tup [T3 a b d] ∨ x = .tup [.int a, .int b, .int 0] ∨ x = .tup [.int a, .int b, .int a, .int b, .int d] ∨ x = .tup [T3 a b d, T3 a b d, T3 a b d]) → Vd 1100 3 x := by
    rintro x (rfl | rfl | rfl | rfl | rfl | rfl | rfl | rfl)
    · refine (vd_lst (n := 3) (w := 110) (k := 0) (ds := [.int a, .int b, .int d]) ?_ (Nat.le_refl 3)).mono
      simp only [List.mem_cons, List.not_mem_nil, or_false, forall_eq_or_imp, forall_eq]
      exact ⟨p, q, r⟩
    · refine tp ?_ (by show 4 ≤ 5; decide)
      simp only [List.mem_cons, List.not_mem_nil, or_false, forall_eq_or_imp, forall_eq]
      exact ⟨p, q, r, o⟩
    · refine tp ?_ (by show 2 ≤ 5; decide)
      simp only [List.mem_cons, List.not_mem_nil, or_false, forall_eq_or_imp, forall_eq]
      exact ⟨q, r⟩
    · refine tp ?_ (by show 2 ≤ 5; decide)
      simp only [List.mem_cons, List.not_mem_nil, or_false, forall_eq_or_imp, forall_eq]
      exact ⟨p, q⟩
    · refine (vd_tup (n := 1) (w := 340) (k := 1) (ds := [T3 a b d]) ?_ (Nat.le_refl 1)).mono
      simp only [List.mem_cons, List.not_mem_nil, or_false, forall_eq]
      exact hb.vd
    · refine tp ?_ (by show 3 ≤ 5; decide)
      simp only [List.mem_cons, List.not_mem_nil, or_false, forall_eq_or_imp, forall_eq]
      exact ⟨p, q, z⟩
    · refine tp ?_ (by show 5 ≤ 5; decide)
      simp only [List.mem_cons, List.not_mem_nil, or_false, forall_eq_or_imp, forall_eq]
      exact ⟨p, q, p, q, r⟩
    · refine (vd_tup (n := 3) (w := 340) (k := 1) (ds := [T3 a b d, T3 a b d, T3 a b d]) ?_ (Nat.le_refl 3)).mono
      simp only [List.mem_cons, List.not_mem_nil, or_false, forall_eq_or_imp, forall_eq]
      exact ⟨hb.vd, hb.vd, hb.vd⟩
  rcases m with m | m <;> exact key x m
/-! ### bent -/
theorem eqNil {d : D} {ds : List D} (h : eqOk (.tup (d :: ds)) = true) (q : Q (.bl false)) : gEq (.tup (d :: ds)) (.tup []) Q := by
  refine ⟨⟨h, by decide +kernel⟩, ?_⟩
  have e : PyData.eqv (toP (.tup (d :: ds))) (toP (.tup [])) = false := by
    simp [toP, toPs, PyData.eqv, PyData.eqvAll]
  rw [e]
  exact q
theorem eqOk_3 (a b d : Int) : eqOk (T3 a b d) = true := by
  simp [eqOk, DL.plain, plains, toP, toPs, SeqAt.shaped, PyData.canLay0, PyData.canLayAll0, PyData.depth, PyData.depthAll]
theorem e_bentI {n : Nat} {i : Int} (hi : Bd 340 i) (h : ∀ d, Vd 1100 3 d → Q d) : tf__law_bent (n + 1) ξ [.deck, .int i] Q := ⟨rfl, rfl, e_oddI hi h⟩
theorem vd3 {x y z : D} (hx : Vd 1100 3 x) (hy : Vd 1100 3 y) (hz : Vd 1100 3 z) : Vd 3400 4 (.tup [x, y, z]) := (vd_tup (n := 3) (w := 1100) (k := 3) (ds := [x, y, z]) (by
    simp only [List.mem_cons, List.not_mem_nil, or_false, forall_eq_or_imp, forall_eq]
    exact ⟨hx, hy, hz⟩) (Nat.le_refl 3)).mono
theorem e_bentT {a b d : Int} (hb : B3 a b d) (h : ∀ d, Vd 3400 4 d → Q d) : tf__law_bent 3 ξ [.deck, T3 a b d] Q := by
  obtain ⟨p, q, r⟩ := hb.parts
  refine ⟨rfl, szN 0, eqNil (eqOk_3 a b d) ⟨rfl, e_draw (by decide) (by decide) fun r' r0 r1 => ?_⟩⟩
  refine ifd (fun _ => ?_) (fun _ => ?_)
  · exact ⟨rfl, e_oddT hb fun d v => h d v.mono⟩
  refine ⟨rfl, e_draw (by show (0 : Int) < 3; decide) (by show (3 : Int) < 1000000000; decide) fun j j0 j1 => ?_⟩
  have j1 : j < 3 := j1
  have hj : j = 0 ∨ j = 1 ∨ j = 2 := by omega
  rcases hj with rfl | rfl | rfl
  · exact ⟨rfl, e_bentI hb.a fun d o => ⟨szN 1, szN 1, szN 3, h _ (vd3 o q.mono r.mono)⟩⟩
  · exact ⟨rfl, e_bentI hb.b fun d o => ⟨szN 1, szN 2, szN 3, h _ (vd3 p.mono o r.mono)⟩⟩
  · exact ⟨rfl, e_bentI hb.d fun d o => ⟨szN 1, szN 3, szN 3, h _ (vd3 p.mono q.mono o)⟩⟩
theorem abs_bd {n : Nat} {i : Int} (h : Bd n i) : Bd n (if i < 0 then -i else i) := by split; exact h.neg; exact h
theorem e_golden (h : ∀ a b d, B3 a b d → Q (T3 a b d)) : tf__law_golden ξ [.deck] Q := by
  refine ⟨rfl, e_draw (by decide) (by decide) fun w w0 w1 => ?_⟩
  refine ifd (fun _ => ?_) (fun _ => ?_)
  · refine ⟨rfl, e_draw (by decide) (by decide) fun r r0 r1 => ⟨szN 3, h 0 0 (1 + r) ⟨.lit (by decide), .lit (by decide), bd_small (n := 6) (m := 340) (by omega) (by omega)⟩⟩⟩
  · refine ⟨rfl, e_integer (k := 6) (by decide) (by decide) fun x hx => ⟨rfl, e_integer (k := 6) (by decide) (by decide) fun y hy => ?_⟩⟩
    refine ifd (fun _ => ?_) (fun _ => ?_)
    · exact ⟨rfl, e_draw (by decide) (by decide) fun r r0 r1 => ⟨szN 3, h x y (1 + r) ⟨hx.mono (by decide), hy.mono (by decide), bd_small (n := 13) (m := 340) (by omega) (by omega)⟩⟩⟩
    · refine ⟨rfl, e_integer (k := 6) (by decide) (by decide) fun z hz => ⟨szN 3, h x y _ ⟨hx.mono (by decide), hy.mono (by decide), ?_⟩⟩⟩
      have o : Bd 120 (1 : Int) := (Bd.lit (by decide) : Bd 2 1).mono (by decide)
      exact (o.add (abs_bd hz)).mono (by decide)
theorem e_value (h : ∀ d, Vd 3400 4 d → Q d) : tf__law_value ξ [.deck] Q := by
  refine ⟨rfl, e_draw (by decide) (by decide) fun w w0 w1 => ⟨rfl, e_golden fun a b d hb => ?_⟩⟩
  refine ifd (fun _ => ?_) (fun _ => ?_)
  · exact ⟨rfl, e_oddT hb fun d v => h d v.mono⟩
  · refine ifd (fun _ => ?_) (fun _ => ?_)
    · exact ⟨rfl, e_bentT hb h⟩
    · exact h _ hb.vd.mono
end K10
set_option Elab.async false
set_option linter.all false
set_option maxHeartbeats 1000000
set_option maxRecDepth 100000
namespace K10
open PySem PySem.Spec L2 DL
variable {ξ : XT} {Q : D → Prop}
/-! ### what the law makes of a call -/
abbrev num (d : D) : D := .tup [.str "number", d]
abbrev zer : D := .tup [.str "zero", .bl true]
theorem m_bb : mm_BadNumber "BadNumber" = some true := by decide +kernel
theorem m_bz : mm_BadNumber "DividedByZero" = some false := by decide +kernel
theorem m_zz : mm_DividedByZero "DividedByZero" = some true := by decide +kernel
theorem e_ref {Th : TDE} {env : SE} {ξ : XW}
    (h : ∀ (X : DX → Prop) (P : D → Prop), (∀ d, Q (num d) → X ⟨"BadNumber", [("thing", d)]⟩) → (Q zer → X ⟨"DividedByZero", []⟩) → (Q .non → ∀ d, P d) → Th (fun x _ => X x) (hide env) P) :
    dLam 3 T__law_refused Th ξ env Q := by
  intro v
  refine ⟨rfl, h _ _ ?_ ?_ ?_⟩
  · intro d q
    unfold wDs
    dsimp only
    rw [m_bb]
    intro a
    exact ⟨rfl, rfl, rfl, rfl, rfl, rfl, szN 2, q⟩
  · intro q
    unfold wDs
    dsimp only
    rw [m_bz]
    unfold wDs
    dsimp only
    rw [m_zz]
    intro a
    exact ⟨rfl, szN 2, q⟩
  · intro q d
    exact q
/-! ### golden, by the law -/
def odds (ds : List D) : List D := (ds.filter fun d => !isI d).map fun _ => .int 1
theorem lc_odd {x : Slot} : ∀ {ds : List D} {Q' : List D → Prop}, (∀ d ∈ ds, typed d = true) → Q' (odds ds) → lcD (dgName 1) (dtOr (dtNot (dTest (dUn (gIs .int) (dVar 1)))) (dTest (dUn (gIs .bool) (dVar 1)))) (dC (.int 1)) [x, .un] ds Q'
  | [], _, _, q => q
  | d :: ds, Q', h, q => by
    have h1 := h d List.mem_cons_self
    have h2 := fun e m => h e (List.mem_cons_of_mem _ m)
    unfold odds at q
    cases hi : isI d with
    | true =>
      rw [List.filter_cons_of_neg (by rw [hi]; decide)] at q
      obtain ⟨i, rfl⟩ := isI_of hi
      exact ⟨rfl, rfl, lc_odd h2 q⟩
    | false =>
      rw [List.filter_cons_of_pos (by rw [hi]; decide)] at q
      have z := lc_odd (x := x) (Q' := fun ys => Q' (.int 1 :: ys)) h2 q
      cases d with
      | int i => cases hi
      | bl b => exact ⟨rfl, rfl, z⟩
      | deck => cases h1
      | ty n => cases h1
      | _ => exact ⟨rfl, z⟩
theorem eq_odd {a b d : D} (q : Q (.bl (isI a && (isI b && isI d)))) : gEq (.lst (odds [a, b, d])) (.lst []) Q := by
  unfold odds
  cases ha : isI a <;> cases hb : isI b <;> cases hd : isI d <;> rw [ha, hb, hd] at q <;>
    simp only [List.filter_cons, List.filter_nil, ha, hb, hd, Bool.not_true, Bool.not_false, if_true, Bool.false_eq_true, if_false, List.map_cons, List.map_nil] <;>
    exact ⟨⟨by decide +kernel, by decide +kernel⟩, q⟩
theorem e_lisG {x : D} (v : Ty x) (q : Q (.bl (isG x))) : tf__law_is_golden ξ [x] Q := by
  cases x with
  | tup ds =>
    refine ⟨rfl, ?_⟩
    show (if (!decide ((ds.length : Int) = 3)) = true then _ else _)
    by_cases hl : (ds.length : Int) = 3
    · rw [decide_eq_true hl]
      match ds, hl with
      | [a, b, d], _ =>
        have q : Q (.bl (isI a && (isI b && (isI d && decide (vi d ≥ 1))))) := q
        refine ⟨szN 3, lc_odd (ds := [a, b, d]) (Q' := fun ys => dBin gEq (fun _ _ Q => Q (.lst ys)) (dLst dNil) (fun _ _ => False) [] _) v ⟨szN 0, eq_odd ?_⟩⟩
        cases ha : isI a with
        | false => rw [ha] at q; exact q
        | true =>
          rw [ha] at q
          cases hb : isI b with
          | false => rw [hb] at q; exact q
          | true =>
            rw [hb] at q
            cases hd : isI d with
            | false => rw [hd] at q; exact q
            | true =>
              rw [hd] at q
              obtain ⟨i, rfl⟩ := isI_of hd
              exact q
      | [], h => simp at h
      | [_], h => simp at h
      | [_, _], h => simp at h
      | _ :: _ :: _ :: _ :: _, h => simp only [List.length_cons] at h; omega
    · rw [decide_eq_false hl]
      have e : isG (.tup ds) = false := by
        unfold isG
        split
        · rename_i e
          cases e
          exact (hl rfl).elim
        · rfl
      rw [e] at q
      exact q
  | deck => cases v
  | ty n => cases v
  | kt n => cases v
  | _ => exact ⟨rfl, q⟩
theorem eqS {a : Str} {P : D → Prop} (q : P (.bl true)) : gEq (.str a) (.str a) P := by
  show P (.bl (decide (a = a)))
  rw [decide_eq_true rfl]
  exact q
theorem e_same {x : D} (s : showR x) (q : Q (.bl true)) : tf__law_same ξ [x, x] Q := ⟨s, s, eqS q⟩
theorem gd_num {d : D} (h : Gd 3400 4 d) : Gd 7000 5 (num d) := (gd_tup (n := 2) (w := 3400) (k := 4) (ds := [.str "number", d]) (by
  simp only [List.mem_cons, List.not_mem_nil, or_false, forall_eq_or_imp, forall_eq]
  exact ⟨(gd_str (n := 10) (by decide) (cs_of _)).mono (by decide) (by decide), h⟩) (Nat.le_refl 2)).mono (by decide) (by decide)
theorem gd_zer : Gd 7000 5 zer := (gd_tup (n := 2) (w := 3400) (k := 4) (ds := [.str "zero", .bl true]) (by
  simp only [List.mem_cons, List.not_mem_nil, or_false, forall_eq_or_imp, forall_eq]
  exact ⟨(gd_str (n := 10) (by decide) (cs_of _)).mono (by decide) (by decide), (gd_bl _).mono (by decide) (by decide)⟩) (Nat.le_refl 2)).mono (by decide) (by decide)
end K10
set_option Elab.async false
set_option linter.all false
set_option maxHeartbeats 400000
set_option maxRecDepth 100000
namespace K10
open PySem PySem.Spec L2 DL
variable {ξ : XT} {Q : D → Prop}
/-! ### functions of two numbers -/
def due (x y : D) : D := if isG x = true then (if isG y = true then .non else num y) else num x
def last (x y : D) : D := if isG x = true then (if isG y = true then (if isZ y = true then zer else .non) else .non) else .non
def far (x y : D) : D := if isG x = true then (if isG y = true then (if isZ y = true then zer else .non) else num y) else num x
theorem due_gd {x y : D} (v : Gd 3400 4 x) (u : Gd 3400 4 y) : Gd 7000 5 (due x y) := by
  unfold due
  split
  · split
    · exact gd_non.mono (by decide) (by decide)
    · exact gd_num u
  · exact gd_num v
theorem far_gd {x y : D} (v : Gd 3400 4 x) (u : Gd 3400 4 y) : Gd 7000 5 (far x y) := by
  unfold far
  split
  · split
    · split
      · exact gd_zer
      · exact gd_non.mono (by decide) (by decide)
    · exact gd_num u
  · exact gd_num v
theorem d1 {x y : D} (g : isG x = false) : due x y = num x := by unfold due; rw [g]; rfl
theorem d2 {x y : D} (g : isG x = true) (g' : isG y = false) : due x y = num y := by unfold due; rw [g, g']; rfl
theorem d3 {x y : D} (g : isG x = true) (g' : isG y = true) : due x y = .non := by unfold due; rw [g, g']; rfl
theorem f1 {x y : D} (g : isG x = false) : far x y = num x := by unfold far; rw [g]; rfl
theorem f2 {x y : D} (g : isG x = true) (g' : isG y = false) : far x y = num y := by unfold far; rw [g, g']; rfl
theorem f3 {x y : D} (g : isG x = true) (g' : isG y = true) (z : isZ y = true) : far x y = zer := by unfold far; rw [g, g', z]; rfl
theorem f4 {x y : D} (g : isG x = true) (g' : isG y = true) (z : isZ y = false) : far x y = .non := by unfold far; rw [g, g', z]; rfl
theorem isG_Z {a b c : D} (h : isG (.tup [a, b, c]) = true) : isZ (.tup [a, b, c]) = (decide (vi a = 0) && decide (vi b = 0)) := by
  obtain ⟨a', b', d', e, _⟩ := isG_of h
  cases e
  rfl
section
variable {De : DEnds} {ζ : XW} {U : TDS} {x y : D} {s0 s1 s2 s3 s4 s5 : Slot}
theorem t0 (h : U ζ De [.d x, .d y, .d .non, .d .non, s4, s5]) : dSeq (dAsg (dTup (dCons (dC .non) (dCons (dC .non) dNil))) (dgTup 2 (dgCons (dgName 2) (dgCons (dgName 3) dgNil)))) U ζ De [.d x, .d y, s2, s3, s4, s5] := ⟨szN 2, rfl, h⟩
theorem t1 (v : Vx x) (u : Vx y) (h : U ζ De [.d x, .d y, .d (due x y), .d (last x y), s4, s5]) : dSeq (dIfS (dtNot (dTest (dCall 1 tf__law_is_golden (dCons (dVar 0) dNil))))
    (dAsg (dTup (dCons (dC (.str "number")) (dCons (dVar 0) dNil))) (dgName 2))
    (dIfS (dtNot (dTest (dCall 1 tf__law_is_golden (dCons (dVar 1) dNil))))
    (dAsg (dTup (dCons (dC (.str "number")) (dCons (dVar 1) dNil))) (dgName 2))
    (dIfS (dtAnd (dTest (dBin gEq (dBin gIx (dVar 1) (dC (.int 0))) (dC (.int 0)))) (dTest (dBin gEq (dBin gIx (dVar 1) (dC (.int 1))) (dC (.int 0)))))
    (dAsg (dTup (dCons (dC (.str "zero")) (dCons (dC (.bl true)) dNil))) (dgName 3))
    dNext))) U ζ De [.d x, .d y, .d .non, .d .non, s4, s5] := by
  refine ⟨rfl, e_lisG v.ty ?_⟩
  unfold due last at h
  cases hx : isG x with
  | false =>
    rw [hx] at h
    exact ⟨szN 2, h⟩
  | true =>
    rw [hx] at h
    refine ⟨rfl, e_lisG u.ty ?_⟩
    cases hy : isG y with
    | false =>
      rw [hy] at h
      exact ⟨szN 2, h⟩
    | true =>
      rw [hy] at h
      obtain ⟨c, e, f, rfl, _⟩ := isG_of hy
      have h : U ζ De [.d x, .d (T3 c e f), .d .non, .d (if (decide (c = 0) && decide (e = 0)) = true then zer else .non), s4, s5] := h
      refine ifd (fun hc => ?_) (fun hc => ?_)
      · rw [decide_eq_true hc] at h
        refine ifd (fun he => ?_) (fun he => ?_)
        · rw [decide_eq_true he] at h
          exact ⟨szN 2, h⟩
        · rw [decide_eq_false he] at h
          exact h
      · rw [decide_eq_false hc] at h
        exact h
theorem own4 {T : TDE} {d : D} (k : ∀ P : D → Prop, P d → T ζ [s0, s1, s2, s3, s4, s5] P) (h : U ζ De [s0, s1, s2, s3, .own [d], s5]) : dSeq (dOwn (lLst (dCons T dNil)) 4) U ζ De [s0, s1, s2, s3, s4, s5] := k _ ⟨szN 1, h⟩
theorem app4 {T : TDE} {d : D} {l : List D} {n : Nat} (hl : l.length = n) (k : ∀ P : D → Prop, P d → T ζ [s0, s1, s2, s3, .own l, s5] P) (h : U ζ De [s0, s1, s2, s3, .own (l ++ [d]), s5]) (hn : n < 1000 := by decide) : dSeq (dApp 4 T) U ζ De [s0, s1, s2, s3, .own l, s5] := k _ ⟨by rw [hl]; exact szL n hn, h⟩
theorem fr4 {l : List D} (h : U ζ De [s0, s1, s2, s3, .d (.lst l), s5]) : dFreeze 4 U ζ De [s0, s1, s2, s3, .own l, s5] := h
theorem own5 {T : TDE} {d : D} (k : ∀ P : D → Prop, P d → T ζ [s0, s1, s2, s3, s4, s5] P) (h : U ζ De [s0, s1, s2, s3, s4, .own [d]]) : dSeq (dOwn (lLst (dCons T dNil)) 5) U ζ De [s0, s1, s2, s3, s4, s5] := k _ ⟨szN 1, h⟩
theorem app5 {T : TDE} {d : D} {l : List D} {n : Nat} (hl : l.length = n) (k : ∀ P : D → Prop, P d → T ζ [s0, s1, s2, s3, s4, .own l] P) (h : U ζ De [s0, s1, s2, s3, s4, .own (l ++ [d])]) (hn : n < 1000 := by decide) : dSeq (dApp 5 T) U ζ De [s0, s1, s2, s3, s4, .own l] := k _ ⟨by rw [hl]; exact szL n hn, h⟩
theorem fr5 {l : List D} (h : U ζ De [s0, s1, s2, s3, s4, .d (.lst l)]) : dFreeze 5 U ζ De [s0, s1, s2, s3, s4, .own l] := h
theorem g_plus (v : Vx x) (u : Vx y) {P : D → Prop} (h : P (due x y)) : dLam 3 T__law_refused (dCallX 2 tf_plus (dCons (dVar 0) (dCons (dVar 1) dNil))) ζ [.d x, .d y, s2, s3, s4, s5] P := e_ref fun X P' c1 c0 c3 => ⟨rfl, F_plus v u (fun g => c1 x (d1 g ▸ h)) (fun g g' => c1 y (d2 g g' ▸ h)) (fun g g' => c3 (d3 g g' ▸ h))⟩
theorem k_plus (v : Vx x) (u : Vx y) {P : D → Prop} (h : P (due x y)) : dLam 3 T__law_refused (dCallKX 2 2 [1, 0] tf_plus (dCons (dVar 1) (dCons (dVar 0) dNil))) ζ [.d x, .d y, s2, s3, s4, s5] P := e_ref fun X P' c1 c0 c3 => ⟨⟨rfl, rfl⟩, F_plus v u (fun g => c1 x (d1 g ▸ h)) (fun g g' => c1 y (d2 g g' ▸ h)) (fun g g' => c3 (d3 g g' ▸ h))⟩
theorem g_minus (v : Vx x) (u : Vx y) {P : D → Prop} (h : P (due x y)) : dLam 3 T__law_refused (dCallX 2 tf_minus (dCons (dVar 0) (dCons (dVar 1) dNil))) ζ [.d x, .d y, s2, s3, s4, s5] P := e_ref fun X P' c1 c0 c3 => ⟨rfl, F_minus v u (fun g => c1 x (d1 g ▸ h)) (fun g g' => c1 y (d2 g g' ▸ h)) (fun g g' => c3 (d3 g g' ▸ h))⟩
theorem k_minus (v : Vx x) (u : Vx y) {P : D → Prop} (h : P (due x y)) : dLam 3 T__law_refused (dCallKX 2 2 [1, 0] tf_minus (dCons (dVar 1) (dCons (dVar 0) dNil))) ζ [.d x, .d y, s2, s3, s4, s5] P := e_ref fun X P' c1 c0 c3 => ⟨⟨rfl, rfl⟩, F_minus v u (fun g => c1 x (d1 g ▸ h)) (fun g g' => c1 y (d2 g g' ▸ h)) (fun g g' => c3 (d3 g g' ▸ h))⟩
theorem g_times (v : Vx x) (u : Vx y) {P : D → Prop} (h : P (due x y)) : dLam 3 T__law_refused (dCallX 2 tf_times (dCons (dVar 0) (dCons (dVar 1) dNil))) ζ [.d x, .d y, s2, s3, s4, s5] P := e_ref fun X P' c1 c0 c3 => ⟨rfl, F_times v u (fun g => c1 x (d1 g ▸ h)) (fun g g' => c1 y (d2 g g' ▸ h)) (fun g g' => c3 (d3 g g' ▸ h))⟩
theorem k_times (v : Vx x) (u : Vx y) {P : D → Prop} (h : P (due x y)) : dLam 3 T__law_refused (dCallKX 2 2 [1, 0] tf_times (dCons (dVar 1) (dCons (dVar 0) dNil))) ζ [.d x, .d y, s2, s3, s4, s5] P := e_ref fun X P' c1 c0 c3 => ⟨⟨rfl, rfl⟩, F_times v u (fun g => c1 x (d1 g ▸ h)) (fun g g' => c1 y (d2 g g' ▸ h)) (fun g g' => c3 (d3 g g' ▸ h))⟩
theorem g_is_below (v : Vx x) (u : Vx y) {P : D → Prop} (h : P (due x y)) : dLam 3 T__law_refused (dCallX 2 tf_is_below (dCons (dVar 0) (dCons (dVar 1) dNil))) ζ [.d x, .d y, s2, s3, s4, s5] P := e_ref fun X P' c1 c0 c3 => ⟨rfl, F_below v u (fun g => c1 x (d1 g ▸ h)) (fun g g' => c1 y (d2 g g' ▸ h)) (fun g g' => c3 (d3 g g' ▸ h))⟩
theorem k_is_below (v : Vx x) (u : Vx y) {P : D → Prop} (h : P (due x y)) : dLam 3 T__law_refused (dCallKX 2 2 [1, 0] tf_is_below (dCons (dVar 1) (dCons (dVar 0) dNil))) ζ [.d x, .d y, s2, s3, s4, s5] P := e_ref fun X P' c1 c0 c3 => ⟨⟨rfl, rfl⟩, F_below v u (fun g => c1 x (d1 g ▸ h)) (fun g g' => c1 y (d2 g g' ▸ h)) (fun g g' => c3 (d3 g g' ▸ h))⟩
theorem g_are_equal (v : Vx x) (u : Vx y) {P : D → Prop} (h : P (due x y)) : dLam 3 T__law_refused (dCallX 2 tf_are_equal (dCons (dVar 0) (dCons (dVar 1) dNil))) ζ [.d x, .d y, s2, s3, s4, s5] P := e_ref fun X P' c1 c0 c3 => ⟨rfl, F_equal v u (fun g => c1 x (d1 g ▸ h)) (fun g g' => c1 y (d2 g g' ▸ h)) (fun g g' => c3 (d3 g g' ▸ h))⟩
theorem k_are_equal (v : Vx x) (u : Vx y) {P : D → Prop} (h : P (due x y)) : dLam 3 T__law_refused (dCallKX 2 2 [1, 0] tf_are_equal (dCons (dVar 1) (dCons (dVar 0) dNil))) ζ [.d x, .d y, s2, s3, s4, s5] P := e_ref fun X P' c1 c0 c3 => ⟨⟨rfl, rfl⟩, F_equal v u (fun g => c1 x (d1 g ▸ h)) (fun g g' => c1 y (d2 g g' ▸ h)) (fun g g' => c3 (d3 g g' ▸ h))⟩
theorem g_quot (v : Vx x) (u : Vx y) {P : D → Prop} (h : P (far x y)) : dLam 3 T__law_refused (dCallX 2 tf_quotient (dCons (dVar 0) (dCons (dVar 1) dNil))) ζ [.d x, .d y, s2, s3, s4, s5] P := e_ref fun X P' c1 c0 c3 => ⟨rfl, F_quot v u (fun g => c1 x (f1 g ▸ h)) (fun g g' => c1 y (f2 g g' ▸ h)) (fun g g' => ⟨fun z => c0 (f3 g g' z ▸ h), fun z => c3 (f4 g g' z ▸ h)⟩)⟩
theorem k_quot (v : Vx x) (u : Vx y) {P : D → Prop} (h : P (far x y)) : dLam 3 T__law_refused (dCallKX 2 2 [1, 0] tf_quotient (dCons (dVar 1) (dCons (dVar 0) dNil))) ζ [.d x, .d y, s2, s3, s4, s5] P := e_ref fun X P' c1 c0 c3 => ⟨⟨rfl, rfl⟩, F_quot v u (fun g => c1 x (f1 g ▸ h)) (fun g g' => c1 y (f2 g g' ▸ h)) (fun g g' => ⟨fun z => c0 (f3 g g' z ▸ h), fun z => c3 (f4 g g' z ▸ h)⟩)⟩
end
theorem two_end {De : DEnds} {ζ : XW} {s0 s1 s4 : Slot} {du la fa : D} (hz : (if isNo du = true then la else du) = fa) (sf : showR (.lst [fa, fa])) (q : De.rt (.bl true)) : dCall 2 tf__law_same (dCons (dVar 5) (dCons (dBin gMulA (dLst (dCons (dIf (dTest (dBin gNotN (dVar 2) (dC D.non))) (dVar 2) (dVar 3)) dNil)) (dC (D.int 2))) dNil)) ζ [s0, s1, .d du, .d la, s4, .d (.lst [fa, fa])] De.rt := by
  show (if (!isNo du) = true then _ else _)
  cases h : isNo du with
  | true =>
    rw [h] at hz
    have hz : la = fa := hz
    subst hz
    exact ⟨szN 1, ⟨by decide, by decide, szN 2⟩, rfl, e_same sf q⟩
  | false =>
    rw [h] at hz
    have hz : du = fa := hz
    subst hz
    exact ⟨szN 1, ⟨by decide, by decide, szN 2⟩, rfl, e_same sf q⟩
theorem gd_rep {d : D} {n : Nat} (g : Gd 7000 5 d) {l : List D} (h : ∀ x ∈ l, x = d) (hl : l.length ≤ 20) : showR (.lst l) := (gd_lst (n := 20) (w := 7000) (k := 5) (ds := l) (fun x m => by rw [h x m]; exact g) hl).show (by decide) (by decide)
theorem e_two {x y : D} (v : Vd 3400 4 x) (u : Vd 3400 4 y) (q : Q (.bl true)) : tf__law_two_right ξ [x, y] Q := by
  have vx := v.vx
  have ux := u.vx
  show T__law_two_right (fun _ _ => False) { nx := fun _ => Q .non, rt := Q } [.d x, .d y, .un, .un, .un, .un]
  unfold T__law_two_right
  refine t0 ?_
  refine t1 vx ux ?_
  refine own4 (fun P h => g_plus vx ux h) ?_
  refine app4 (n := 1) rfl (fun P h => g_minus vx ux h) ?_
  refine app4 (n := 2) rfl (fun P h => g_times vx ux h) ?_
  refine app4 (n := 3) rfl (fun P h => g_is_below vx ux h) ?_
  refine app4 (n := 4) rfl (fun P h => g_are_equal vx ux h) ?_
  refine app4 (n := 5) rfl (fun P h => k_plus vx ux h) ?_
  refine app4 (n := 6) rfl (fun P h => k_minus vx ux h) ?_
  refine app4 (n := 7) rfl (fun P h => k_times vx ux h) ?_
  refine app4 (n := 8) rfl (fun P h => k_is_below vx ux h) ?_
  refine app4 (n := 9) rfl (fun P h => k_are_equal vx ux h) ?_
  refine fr4 ?_
  refine own5 (fun P h => g_quot vx ux h) ?_
  refine app5 (n := 1) rfl (fun P h => k_quot vx ux h) ?_
  refine fr5 ?_
  have sd : showR (.lst [due x y, due x y, due x y, due x y, due x y, due x y, due x y, due x y, due x y, due x y]) := gd_rep (n := 1) (due_gd v.g u.g) (by simp) (by show 10 ≤ 20; decide)
  have sf : showR (.lst [far x y, far x y]) := gd_rep (n := 1) (far_gd v.g u.g) (by simp) (by show 2 ≤ 20; decide)
  refine ⟨szN 1, ⟨by decide, by decide, szN 10⟩, rfl, e_same sd ?_⟩
  refine two_end (ζ := fun _ _ => False) (De := { nx := fun _ => Q .non, rt := Q }) ?_ sf q
  unfold due last far
  cases isG x <;> cases isG y <;> cases isZ y <;> rfl
/-! ### functions of one number -/
def due1 (x : D) : D := if isG x = true then .non else num x
theorem due1_gd {x : D} (v : Gd 3400 4 x) : Gd 7000 5 (due1 x) := by
  unfold due1
  split
  · exact gd_non.mono (by decide) (by decide)
  · exact gd_num v
theorem o1 {x : D} (g : isG x = false) : due1 x = num x := by unfold due1; rw [g]; rfl
theorem o2 {x : D} (g : isG x = true) : due1 x = .non := by unfold due1; rw [g]; rfl
theorem o3 {x : D} : isNo (due1 x) = isG x := by unfold due1; cases isG x <;> rfl
section
variable {De : DEnds} {ζ : XW} {U : TDS} {x : D} {s0 s1 s2 : Slot}
theorem u0 (v : Vx x) (h : U ζ De [.d x, .d (due1 x), s2]) : dSeq (dAsg (dIf (dTest (dCall 1 tf__law_is_golden (dCons (dVar 0) dNil))) (dC .non) (dTup (dCons (dC (.str "number")) (dCons (dVar 0) dNil)))) (dgName 1)) U ζ De [.d x, s1, s2] := by
  unfold due1 at h
  refine ⟨rfl, e_lisG v.ty ?_⟩
  cases hx : isG x with
  | false => rw [hx] at h; exact ⟨szN 2, h⟩
  | true => rw [hx] at h; exact h
theorem own2 {T : TDE} {d : D} (k : ∀ P : D → Prop, P d → T ζ [s0, s1, s2] P) (h : U ζ De [s0, s1, .own [d]]) : dSeq (dOwn (lLst (dCons T dNil)) 2) U ζ De [s0, s1, s2] := k _ ⟨szN 1, h⟩
theorem app2 {T : TDE} {d : D} {l : List D} {n : Nat} (hl : l.length = n) (k : ∀ P : D → Prop, P d → T ζ [s0, s1, .own l] P) (h : U ζ De [s0, s1, .own (l ++ [d])]) (hn : n < 1000 := by decide) : dSeq (dApp 2 T) U ζ De [s0, s1, .own l] := k _ ⟨by rw [hl]; exact szL n hn, h⟩
theorem fr2 {l : List D} (h : U ζ De [s0, s1, .d (.lst l)]) : dFreeze 2 U ζ De [s0, s1, .own l] := h
theorem i_reduced (v : Vx x) {P : D → Prop} (h : P (due1 x)) : dLam 3 T__law_refused (dCallX 1 tf_reduced (dCons (dVar 0) dNil)) ζ [.d x, s1, s2] P := e_ref fun X P' c1 c0 c3 => ⟨rfl, F_reduced v (fun g => c1 x (o1 g ▸ h)) (fun g => c3 (o2 g ▸ h))⟩
theorem j_reduced (v : Vx x) {P : D → Prop} (h : P (due1 x)) : dLam 3 T__law_refused (dCallKX 1 1 [0] tf_reduced (dCons (dVar 0) dNil)) ζ [.d x, s1, s2] P := e_ref fun X P' c1 c0 c3 => ⟨⟨rfl, rfl⟩, F_reduced v (fun g => c1 x (o1 g ▸ h)) (fun g => c3 (o2 g ▸ h))⟩
theorem i_sign (v : Vx x) {P : D → Prop} (h : P (due1 x)) : dLam 3 T__law_refused (dCallX 1 tf_sign (dCons (dVar 0) dNil)) ζ [.d x, s1, s2] P := e_ref fun X P' c1 c0 c3 => ⟨rfl, F_sign v (fun g => c1 x (o1 g ▸ h)) (fun g => c3 (o2 g ▸ h))⟩
theorem j_sign (v : Vx x) {P : D → Prop} (h : P (due1 x)) : dLam 3 T__law_refused (dCallKX 1 1 [0] tf_sign (dCons (dVar 0) dNil)) ζ [.d x, s1, s2] P := e_ref fun X P' c1 c0 c3 => ⟨⟨rfl, rfl⟩, F_sign v (fun g => c1 x (o1 g ▸ h)) (fun g => c3 (o2 g ▸ h))⟩
theorem i_integer_below (v : Vx x) {P : D → Prop} (h : P (due1 x)) : dLam 3 T__law_refused (dCallX 1 tf_integer_below (dCons (dVar 0) dNil)) ζ [.d x, s1, s2] P := e_ref fun X P' c1 c0 c3 => ⟨rfl, F_ibelow v (fun g => c1 x (o1 g ▸ h)) (fun g => c3 (o2 g ▸ h))⟩
theorem j_integer_below (v : Vx x) {P : D → Prop} (h : P (due1 x)) : dLam 3 T__law_refused (dCallKX 1 1 [0] tf_integer_below (dCons (dVar 0) dNil)) ζ [.d x, s1, s2] P := e_ref fun X P' c1 c0 c3 => ⟨⟨rfl, rfl⟩, F_ibelow v (fun g => c1 x (o1 g ▸ h)) (fun g => c3 (o2 g ▸ h))⟩
theorem i_integer_above (v : Vx x) {P : D → Prop} (h : P (due1 x)) : dLam 3 T__law_refused (dCallX 1 tf_integer_above (dCons (dVar 0) dNil)) ζ [.d x, s1, s2] P := e_ref fun X P' c1 c0 c3 => ⟨rfl, F_iabove v (fun g => c1 x (o1 g ▸ h)) (fun g => c3 (o2 g ▸ h))⟩
theorem j_integer_above (v : Vx x) {P : D → Prop} (h : P (due1 x)) : dLam 3 T__law_refused (dCallKX 1 1 [0] tf_integer_above (dCons (dVar 0) dNil)) ζ [.d x, s1, s2] P := e_ref fun X P' c1 c0 c3 => ⟨⟨rfl, rfl⟩, F_iabove v (fun g => c1 x (o1 g ▸ h)) (fun g => c3 (o2 g ▸ h))⟩
theorem i_is_whole (v : Vx x) {P : D → Prop} (h : P (due1 x)) : dLam 3 T__law_refused (dCallX 1 tf_is_whole (dCons (dVar 0) dNil)) ζ [.d x, s1, s2] P := e_ref fun X P' c1 c0 c3 => ⟨rfl, F_whole v (fun g => c1 x (o1 g ▸ h)) (fun g => c3 (o2 g ▸ h))⟩
theorem j_is_whole (v : Vx x) {P : D → Prop} (h : P (due1 x)) : dLam 3 T__law_refused (dCallKX 1 1 [0] tf_is_whole (dCons (dVar 0) dNil)) ζ [.d x, s1, s2] P := e_ref fun X P' c1 c0 c3 => ⟨⟨rfl, rfl⟩, F_whole v (fun g => c1 x (o1 g ▸ h)) (fun g => c3 (o2 g ▸ h))⟩
theorem i_conjugate (v : Vx x) {P : D → Prop} (h : P (due1 x)) : dLam 3 T__law_refused (dCallX 1 tf_conjugate (dCons (dVar 0) dNil)) ζ [.d x, s1, s2] P := e_ref fun X P' c1 c0 c3 => ⟨rfl, F_conj v (fun g => c1 x (o1 g ▸ h)) (fun g => c3 (o2 g ▸ h))⟩
theorem j_conjugate (v : Vx x) {P : D → Prop} (h : P (due1 x)) : dLam 3 T__law_refused (dCallKX 1 1 [0] tf_conjugate (dCons (dVar 0) dNil)) ζ [.d x, s1, s2] P := e_ref fun X P' c1 c0 c3 => ⟨⟨rfl, rfl⟩, F_conj v (fun g => c1 x (o1 g ▸ h)) (fun g => c3 (o2 g ▸ h))⟩
theorem i_number_text (v : Vx x) {P : D → Prop} (h : P (due1 x)) : dLam 3 T__law_refused (dCallX 1 tf_number_text (dCons (dVar 0) dNil)) ζ [.d x, s1, s2] P := e_ref fun X P' c1 c0 c3 => ⟨rfl, F_ntext v (fun g => c1 x (o1 g ▸ h)) (fun g => c3 (o2 g ▸ h))⟩
theorem j_number_text (v : Vx x) {P : D → Prop} (h : P (due1 x)) : dLam 3 T__law_refused (dCallKX 1 1 [0] tf_number_text (dCons (dVar 0) dNil)) ζ [.d x, s1, s2] P := e_ref fun X P' c1 c0 c3 => ⟨⟨rfl, rfl⟩, F_ntext v (fun g => c1 x (o1 g ▸ h)) (fun g => c3 (o2 g ▸ h))⟩
end
theorem gd_bb (b : Bool) : showR (.tup [.bl b, .bl b]) := (gd_tup (n := 2) (w := 100) (k := 0) (ds := [.bl b, .bl b]) (by
  simp only [List.mem_cons, List.not_mem_nil, or_false, forall_eq_or_imp, forall_eq]
  exact ⟨gd_bl _, gd_bl _⟩) (Nat.le_refl 2)).show (by decide) (by decide)
theorem e_one {x : D} (v : Vd 3400 4 x) (q : Q (.bl true)) : tf__law_one_right ξ [x] Q := by
  have vx := v.vx
  show T__law_one_right (fun _ _ => False) { nx := fun _ => Q .non, rt := Q } [.d x, .un, .un]
  unfold T__law_one_right
  refine u0 vx ?_
  refine own2 (fun P h => i_reduced vx h) ?_
  refine app2 (n := 1) rfl (fun P h => i_sign vx h) ?_
  refine app2 (n := 2) rfl (fun P h => i_integer_below vx h) ?_
  refine app2 (n := 3) rfl (fun P h => i_integer_above vx h) ?_
  refine app2 (n := 4) rfl (fun P h => i_is_whole vx h) ?_
  refine app2 (n := 5) rfl (fun P h => i_conjugate vx h) ?_
  refine app2 (n := 6) rfl (fun P h => i_number_text vx h) ?_
  refine app2 (n := 7) rfl (fun P h => j_reduced vx h) ?_
  refine app2 (n := 8) rfl (fun P h => j_sign vx h) ?_
  refine app2 (n := 9) rfl (fun P h => j_integer_below vx h) ?_
  refine app2 (n := 10) rfl (fun P h => j_integer_above vx h) ?_
  refine app2 (n := 11) rfl (fun P h => j_is_whole vx h) ?_
  refine app2 (n := 12) rfl (fun P h => j_conjugate vx h) ?_
  refine app2 (n := 13) rfl (fun P h => j_number_text vx h) ?_
  refine fr2 ?_
  have sd : showR (.lst [due1 x, due1 x, due1 x, due1 x, due1 x, due1 x, due1 x, due1 x, due1 x, due1 x, due1 x, due1 x, due1 x, due1 x]) := gd_rep (n := 1) (due1_gd v.g) (by simp) (by show 14 ≤ 20; decide)
  refine ⟨szN 1, ⟨by decide, by decide, szN 14⟩, rfl, e_same sd ?_⟩
  refine ⟨rfl, e_isG vx.ty ⟨⟨rfl, rfl⟩, e_isG vx.ty ⟨szN 2, ?_⟩⟩⟩
  have z : tf__law_same (fun _ => False) [.tup [.bl (isG x), .bl (isG x)], .tup [.bl (isNo (due1 x)), .bl (isNo (due1 x))]] Q := by
    rw [o3]
    exact e_same (gd_bb _) q
  exact ⟨szN 2, rfl, z⟩
end K10
set_option Elab.async false
set_option linter.all false
set_option maxHeartbeats 400000
set_option maxRecDepth 100000
namespace K10
open PySem PySem.Spec L2 DL
variable {ξ : XT} {Q : D → Prop}
/-! ### great numbers -/
theorem e_plusB {n m u v : Nat} {a b d c e f : Int} (ga : Bd n a) (gb : Bd n b) (gd : Bd u d) (gp : 1 ≤ d) (ka : Bd m c) (kb : Bd m e) (kd : Bd v f) (kp : 1 ≤ f) (l : n + m + u + v ≤ 100000) (l2 : u + v ≤ 8900) (h : ∀ x, Q x) : tf_plus ξ [T3 a b d, T3 c e f] Q := by
  refine ⟨rfl, e_need gp ⟨rfl, e_need kp ⟨rfl, rfl, ga.cmul kd (by omega), ka.cmul gd (by omega), gb.cmul kd (by omega), kb.cmul gd (by omega), gd.cmul kd (by omega), rfl, ?_⟩⟩⟩
  refine e_lowest (n := n + m + u + v + 1) ?_ ?_ (gd.mul kd) (by have := mulp gp kp; omega) l2 fun x y z _ _ _ _ _ => h _
  · exact (((ga.mul kd).mono (by omega)).add ((ka.mul gd).mono (by omega)) : Bd (n + m + u + v + 1) _)
  · exact (((gb.mul kd).mono (by omega)).add ((kb.mul gd).mono (by omega)) : Bd (n + m + u + v + 1) _)
structure Gr (n u : Nat) (a b d : Int) : Prop where
  ga : Bd n a
  gb : Bd n b
  gd : Bd u d
  p : 1 ≤ d
theorem ten_bd {r : Int} (h0 : 0 ≤ r) (h1 : r < 9) : Bd 3000 ((10 : Int) ^ (900 - r).toNat - 1) := by
  have l : (10 : Nat) ^ (900 - r).toNat ≤ 10 ^ 900 := Nat.pow_le_pow_right (by decide) (by omega)
  have p : (10 : Nat) ^ 900 ≤ 2 ^ 3000 := by decide +kernel
  have q : 0 < (10 : Nat) ^ (900 - r).toNat := Nat.pow_pos (by decide)
  have e : ((10 : Int) ^ (900 - r).toNat) = ((10 ^ (900 - r).toNat : Nat) : Int) := by rw [Int.natCast_pow]; rfl
  rw [e]
  unfold Bd
  generalize (10 : Nat) ^ (900 - r).toNat = z at *
  generalize (10 : Nat) ^ 900 = y at *
  generalize (2 : Nat) ^ 3000 = x at *
  omega
theorem bd_three {r : Int} (h0 : 0 ≤ r) (h1 : r < 3) : Bd 3 (1 - r) := by unfold Bd; omega
section
variable {De : DEnds} {ζ : XW} {U : TDS} {s0 s1 s2 s3 s4 s5 s6 : Slot}
theorem v0 (h : ∀ N, Bd 3000 N → U ζ De [.d .deck, .d (.int N), s2, s3, s4, s5, s6]) : dSeq (dAsg (dUn gNinesB (dBin gSub (dC (.int 900)) (dCall 2 tf_draw (dCons (dVar 0) (dCons (dC (.int 9)) dNil))))) (dgName 1)) U ζ De [.d .deck, s1, s2, s3, s4, s5, s6] :=
  ⟨rfl, e_draw (by decide) (by decide) fun r r0 r1 => ⟨⟨by omega, by omega⟩, h _ (ten_bd r0 r1)⟩⟩
theorem v1 {N : Int} (b : Bd 3000 N) (h : ∀ M, Gr 3000 1 N M 1 → U ζ De [.d .deck, .d (.int N), .d (T3 N M 1), s3, s4, s5, s6]) : dSeq (dAsg (dTup (dCons (dVar 1) (dCons (dBin gMulA (dVar 1) (dBin gSub (dC (.int 1)) (dCall 2 tf_draw (dCons (dVar 0) (dCons (dC (.int 3)) dNil))))) (dCons (dC (.int 1)) dNil)))) (dgName 2)) U ζ De [.d .deck, .d (.int N), s2, s3, s4, s5, s6] := by
  refine ⟨rfl, e_draw (by decide) (by decide) fun r r0 r1 => ⟨b.cmul (m := 3) (bd_three r0 r1), szN 3, h _ ⟨b, ?_, .lit (by decide), by decide⟩⟩⟩
  have e : 1 - r = 1 ∨ 1 - r = 0 ∨ 1 - r = -1 := by omega
  rcases e with e | e | e <;> rw [e]
  · rw [Int.mul_one]; exact b
  · rw [Int.mul_zero]; exact Bd.mono (n := 1) (.lit (by decide)) (by decide)
  · rw [Int.mul_neg_one]; exact b.neg
theorem for_cons {B : TDS} {x : D} {xs : List D} {env : SE} {i : Nat} (h : B ζ { De with nx := forD (dgName i) B ζ De xs, ct := forD (dgName i) B ζ De xs, bk := De.nx } (env.set i (.d x))) : forD (dgName i) B ζ De (x :: xs) env := h
theorem v2_turn {n u : Nat} {a b d : Int} {s3 : Slot} (g : Gr n u a b d) (l : n + n ≤ 100000) (l2 : u + u ≤ 8900) (h : ∀ x y z, Gr (n + n + 2) (u + u) x y z → De.nx [s0, s1, .d (T3 x y z), s3, s4, s5, s6]) : (dAsg (dCallX 2 tf_times (dCons (dVar 2) (dCons (dVar 2) dNil))) (dgName 2)) ζ De [s0, s1, .d (T3 a b d), s3, s4, s5, s6] :=
  ⟨rfl, e_times g.ga g.gb g.gd g.p g.ga g.gb g.gd g.p l l2 fun x y z nf _ bx by_ bz => h x y z ⟨bx, by_, bz, nf.p⟩⟩
theorem v2 {a b d : Int} (g : Gr 3000 1 a b d) (h : ∀ x y z s3, Gr 24014 8 x y z → U ζ De [s0, s1, .d (T3 x y z), s3, s4, s5, s6]) : dSeq (dForR (dCons (dC (.int 3)) dNil) (dgName 3)
    (dAsg (dCallX 2 tf_times (dCons (dVar 2) (dCons (dVar 2) dNil))) (dgName 2))) U ζ De [s0, s1, .d (T3 a b d), s3, s4, s5, s6] := by
  refine ⟨⟨by decide, by decide⟩, ?_⟩
  show forD (dgName 3) _ ζ { De with nx := U ζ De } [.int 0, .int 1, .int 2] _
  refine for_cons ?_
  refine v2_turn (s3 := .d (.int 0)) g (by decide) (by decide) fun x y z g => ?_
  dsimp only
  refine for_cons ?_
  refine v2_turn (s3 := .d (.int 1)) g (by decide) (by decide) fun x y z g => ?_
  dsimp only
  refine for_cons ?_
  refine v2_turn (s3 := .d (.int 2)) g (by decide) (by decide) fun x y z g => ?_
  exact h x y z _ g
theorem v3 {a b d : Int} (g : Gr 24014 8 a b d) (h : U ζ De [s0, s1, .d (T3 a b d), s3, s4, s5, s6]) : dSeq (dIfS (dtOr (dTest (dBin (gIsBl true) (dCall 1 tf_is_golden (dCons (dVar 2) dNil)) (dC (.bl true)))) (dTest (dBin gNotN (dLam 3 T__law_refused (dCallX 2 tf_plus (dCons (dVar 2) (dCons (dTup (dCons (dC (.int 1)) (dCons (dC (.int 0)) (dCons (dC (.int 1)) dNil)))) dNil)))) (dC .non))))
    (dRet (dC (.bl false)))
    dNext) U ζ De [s0, s1, .d (T3 a b d), s3, s4, s5, s6] := by
  refine ⟨rfl, e_isG (ty3 a b d) ?_⟩
  rw [isG_T g.p]
  exact e_ref (ξ := ζ) fun X P c1 c0 c3 => ⟨szN 3, rfl, e_plusB (v := 1) (m := 1) g.ga g.gb g.gd g.p (.lit (by decide)) (.lit (by decide)) (.lit (by decide)) (by decide) (by decide) (by decide) (c3 h)⟩
abbrev GB : TDS := (dSeq (dIfS (dTest (dBin (gIsBl true) (dCall 1 tf_is_golden (dCons (dVar 4) dNil)) (dC (.bl false))))
    (dRet (dC (.bl false)))
    dNext)
    (dSeq (dAsg (dLam 3 T__law_refused (dCallX 2 tf_plus (dCons (dVar 4) (dCons (dTup (dCons (dC (.int 1)) (dCons (dC (.int 0)) (dCons (dC (.int 1)) dNil)))) dNil)))) (dgName 5))
    (dSeq (dAsg (dLam 3 T__law_refused (dCallKX 2 2 [1, 0] tf_times (dCons (dVar 4) (dCons (dVar 2) dNil)))) (dgName 6))
    (dIfS (dtOr (dTest (dBin gNe (dVar 5) (dTup (dCons (dC (.str "number")) (dCons (dVar 4) dNil))))) (dTest (dBin gNe (dVar 6) (dTup (dCons (dC (.str "number")) (dCons (dVar 4) dNil))))))
    (dRet (dC (.bl false)))
    dNext))))
theorem neT {x : D} {P : D → Prop} (ok : eqOk (num x) = true) (rf : PyData.eqv (toP (num x)) (toP (num x)) = true) (q : P (.bl false)) : gNe (num x) (num x) P := by
  refine ⟨⟨ok, ok⟩, ?_⟩
  rw [rf]
  exact q
theorem v4_turn {x : D} {a b d : Int} (g : Gr 24014 8 a b d) (hx : isG x = false) (ty : Ty x) (ok : eqOk (num x) = true) (rf : PyData.eqv (toP (num x)) (toP (num x)) = true) (h : ∀ s5 s6, De.nx [s0, s1, .d (T3 a b d), s3, .d x, s5, s6]) : GB ζ De [s0, s1, .d (T3 a b d), s3, .d x, s5, s6] := by
  refine ⟨rfl, e_isG ty ?_⟩
  rw [hx]
  refine e_ref (ξ := ζ) fun X P c1 c0 c3 => ⟨szN 3, rfl, rfl, e_needX ty (fun _ => c1 x ?_) (nope hx)⟩
  refine e_ref (ξ := ζ) fun X P c1 c0 c3 => ⟨⟨rfl, rfl⟩, rfl, e_need g.p ⟨rfl, e_needX ty (fun _ => c1 x ?_) (nope hx)⟩⟩
  refine ⟨szN 2, neT ok rf ?_⟩
  exact ⟨szN 2, neT ok rf (h _ _)⟩
theorem strOkN : PyData.strOk (Str.ofString "number") = true := by decide +kernel
theorem ty_of {l : List D} (h : l.all typed = true) : Ty (.tup l) := fun d m => List.all_eq_true.mp h d m
theorem for_consT {B : TDS} {x : D} {xs : List D} {env : SE} {i : Nat} (h : B ζ { De with nx := forD (dgName i) B ζ De xs, ct := forD (dgName i) B ζ De xs, bk := De.nx } (env.set i (.d x))) : forD (dgName i) B ζ De (x :: xs) env := h
theorem v4 {a b d : Int} (g : Gr 24014 8 a b d) (h : ∀ s4 s5 s6, U ζ De [s0, s1, .d (T3 a b d), s3, s4, s5, s6]) : dSeq (dForT (dTup (dCons (dSl (dVar 2) dNoPart (dPart (dC (.int 2)))) (dCons (dBin gAddA (dSl (dVar 2) dNoPart (dPart (dC (.int 2)))) (dTup (dCons (dC (.int 0)) dNil))) (dCons (dBin gAddA (dSl (dVar 2) dNoPart (dPart (dC (.int 2)))) (dTup (dCons (dUn gNeg (dC (.int 1))) dNil))) (dCons (dBin gAddA (dVar 2) (dTup (dCons (dC (.int 1)) dNil))) (dCons (dTup (dCons (dBin gIx (dVar 2) (dC (.int 0))) (dCons (dC .non) (dCons (dC (.int 1)) dNil)))) dNil)))))) (dgName 4)
    (dSeq (dIfS (dTest (dBin (gIsBl true) (dCall 1 tf_is_golden (dCons (dVar 4) dNil)) (dC (.bl false))))
    (dRet (dC (.bl false)))
    dNext)
    (dSeq (dAsg (dLam 3 T__law_refused (dCallX 2 tf_plus (dCons (dVar 4) (dCons (dTup (dCons (dC (.int 1)) (dCons (dC (.int 0)) (dCons (dC (.int 1)) dNil)))) dNil)))) (dgName 5))
    (dSeq (dAsg (dLam 3 T__law_refused (dCallKX 2 2 [1, 0] tf_times (dCons (dVar 4) (dCons (dVar 2) dNil)))) (dgName 6))
    (dIfS (dtOr (dTest (dBin gNe (dVar 5) (dTup (dCons (dC (.str "number")) (dCons (dVar 4) dNil))))) (dTest (dBin gNe (dVar 6) (dTup (dCons (dC (.str "number")) (dCons (dVar 4) dNil))))))
    (dRet (dC (.bl false)))
    dNext))))) U ζ De [s0, s1, .d (T3 a b d), s3, s4, s5, s6] := by
  have z : forD (dgName 4) GB ζ { De with nx := U ζ De } [.tup [.int a, .int b], T3 a b 0, T3 a b (-1), .tup [.int a, .int b, .int d, .int 1], .tup [.int a, .non, .int 1]] [s0, s1, .d (T3 a b d), s3, s4, s5, s6] := by
    refine for_consT ?_
    refine v4_turn g rfl (ty_of rfl) (by simp [eqOk, DL.plain, plains, toP, toPs, SeqAt.shaped, PyData.canLay0, PyData.canLayAll0, PyData.depth, PyData.depthAll, strOkN]) (by simp [toP, toPs, PyData.eqv, PyData.eqvAll]) fun _ _ => ?_
    dsimp only
    refine for_consT ?_
    refine v4_turn g rfl (ty_of rfl) (by simp [eqOk, DL.plain, plains, toP, toPs, SeqAt.shaped, PyData.canLay0, PyData.canLayAll0, PyData.depth, PyData.depthAll, strOkN]) (by simp [toP, toPs, PyData.eqv, PyData.eqvAll]) fun _ _ => ?_
    dsimp only
    refine for_consT ?_
    refine v4_turn g rfl (ty_of rfl) (by simp [eqOk, DL.plain, plains, toP, toPs, SeqAt.shaped, PyData.canLay0, PyData.canLayAll0, PyData.depth, PyData.depthAll, strOkN]) (by simp [toP, toPs, PyData.eqv, PyData.eqvAll]) fun _ _ => ?_
    dsimp only
    refine for_consT ?_
    refine v4_turn g rfl (ty_of rfl) (by simp [eqOk, DL.plain, plains, toP, toPs, SeqAt.shaped, PyData.canLay0, PyData.canLayAll0, PyData.depth, PyData.depthAll, strOkN]) (by simp [toP, toPs, PyData.eqv, PyData.eqvAll]) fun _ _ => ?_
    dsimp only
    refine for_consT ?_
    refine v4_turn g rfl (ty_of rfl) (by simp [eqOk, DL.plain, plains, toP, toPs, SeqAt.shaped, PyData.canLay0, PyData.canLayAll0, PyData.depth, PyData.depthAll, strOkN]) (by simp [toP, toPs, PyData.eqv, PyData.eqvAll]) fun _ _ => ?_
    exact h _ _ _
  exact ⟨szN 1, szN 3, szN 1, szN 3, szN 1, szN 4, szN 3, szN 5, z⟩
end
theorem e_great (q : Q (.bl true)) : tf__law_is_great_right ξ [.deck] Q := by
  show T__law_is_great_right (fun _ _ => False) { nx := fun _ => Q .non, rt := Q } [.d .deck, .un, .un, .un, .un, .un, .un]
  unfold T__law_is_great_right
  refine v0 fun N bN => ?_
  refine v1 bN fun M g => ?_
  refine v2 g fun x y z s3 g => ?_
  refine v3 g ?_
  refine v4 g fun _ _ _ => ?_
  exact q
end K10
set_option Elab.async false
set_option linter.all false
set_option maxHeartbeats 400000
set_option maxRecDepth 100000
namespace K10
open PySem PySem.Spec L2 DL
variable {ξ : XT} {Q : D → Prop}
/-! ### numbers over three -/
def n3 (a b : Int) : Prop := ¬ (a % 3 = 0 ∧ b % 3 = 0)
theorem nf3 {a b : Int} (h : n3 a b) : Nf a b 3 := by
  refine ⟨by decide, ?_⟩
  have d : (a.natAbs.gcd b.natAbs).gcd (3 : Int).natAbs ∣ 3 := Nat.gcd_dvd_right _ _
  have d2 : (a.natAbs.gcd b.natAbs).gcd (3 : Int).natAbs ∣ a.natAbs.gcd b.natAbs := Nat.gcd_dvd_left _ _
  generalize (a.natAbs.gcd b.natAbs).gcd (3 : Int).natAbs = g at *
  have da : g ∣ a.natAbs := Nat.dvd_trans d2 (Nat.gcd_dvd_left _ _)
  have db : g ∣ b.natAbs := Nat.dvd_trans d2 (Nat.gcd_dvd_right _ _)
  have le := Nat.le_of_dvd (by decide) d
  have : g = 0 ∨ g = 1 ∨ g = 2 ∨ g = 3 := by omega
  rcases this with rfl | rfl | rfl | rfl
  · omega
  · rfl
  · omega
  · exact (h ⟨by omega, by omega⟩).elim
theorem same3 {a b x y z A B C : Int} (h : n3 a b) (nf : Nf x y z) (r : Rl A B C x y z) (k : Int) (hk : k ≠ 0) (ea : A = a * k) (eb : B = b * k) (ec : C = 3 * k) : x = a ∧ y = b ∧ z = 3 := by
  have r' : Rl a b 3 x y z := by
    obtain ⟨r1, r2⟩ := r
    rw [ea, ec] at r1
    rw [eb, ec] at r2
    refine ⟨Int.eq_of_mul_eq_mul_right hk ?_, Int.eq_of_mul_eq_mul_right hk ?_⟩
    · grind
    · grind
  obtain ⟨e1, e2, e3⟩ := nf_eq (nf3 h) nf r'
  exact ⟨e1.symm, e2.symm, e3.symm⟩
section
variable {a b c e : Int} {n m : Nat}
structure B2 (n : Nat) (a b : Int) : Prop where
  ba : Bd n a
  bb : Bd n b
theorem B2.gs (h : B2 n a b) (l : 2 ≤ n) : Gs n a b 3 := ⟨h.ba, h.bb, Bd.mono (n := 2) (.lit (by decide)) l, by decide⟩
theorem r3 (g : B2 n a b) (l : 2 ≤ n ∧ n ≤ 2000) (h : n3 a b) (q : Q (T3 a b 3)) : tf_reduced ξ [T3 a b 3] Q := e_reduced (g.gs l.1) (by omega) fun x y z nf r _ => by
  obtain ⟨rfl, rfl, rfl⟩ := same3 h nf r 1 (by decide) (by omega) (by omega) (by omega)
  exact q
theorem t3 (g : B2 n a b) (l : 2 ≤ n ∧ n ≤ 2000) (h : n3 (-b) (-a - b)) (q : Q (T3 (-b) (-a - b) 3)) : tf_times ξ [T3 0 (-1) 1, T3 a b 3] Q := e_times (n := 1) (m := n) (u := 1) (v := 2) (.lit (by decide)) (.lit (by decide)) (.lit (by decide)) (by decide) g.ba g.bb (.lit (by decide)) (by decide) (by omega) (by decide) fun x y z nf r _ _ _ => by
  obtain ⟨rfl, rfl, rfl⟩ := same3 h nf r 1 (by decide) (by omega) (by omega) (by decide)
  exact q
theorem m3 (g : B2 n a b) (k : B2 n c e) (l : 2 ≤ n ∧ n ≤ 2000) (h : n3 (a - c) (b - e)) (q : Q (T3 (a - c) (b - e) 3)) : tf_minus ξ [T3 a b 3, T3 c e 3] Q := e_minus (g.gs l.1) (k.gs l.1) (by omega) fun x y z nf r _ => by
  obtain ⟨rfl, rfl, rfl⟩ := same3 h nf r 3 (by decide) (by omega) (by omega) (by decide)
  exact q
end
/-! ### five keys -/
section
variable {p q : Int}
abbrev a2 (p q : Int) : Int := -q - p
abbrev b2 (p q : Int) : Int := -1 - q - 0
abbrev a3 (p q : Int) : Int := -b2 p q - 1
abbrev b3 (p q : Int) : Int := -a2 p q - b2 p q - q
abbrev a4 (p q : Int) : Int := -b3 p q - a2 p q
abbrev b4 (p q : Int) : Int := -a3 p q - b3 p q - b2 p q
def keys (p q : Int) : List D := [T3 p 0 3, T3 1 q 3, T3 (a2 p q) (b2 p q) 3, T3 (a3 p q) (b3 p q) 3, T3 (a4 p q) (b4 p q) 3]
structure Pq (p q : Int) : Prop where
  bp : Bd 100 p
  bq : Bd 100 q
  hp : p % 3 = 1
  hq : q % 3 = 0
theorem Pq.b (h : Pq p q) : B2 200 p 0 ∧ B2 200 1 q ∧ B2 200 (a2 p q) (b2 p q) ∧ B2 200 (a3 p q) (b3 p q) ∧ B2 200 (-q) (-1 - q) ∧ B2 200 (-b2 p q) (-a2 p q - b2 p q) ∧ B2 200 (-b3 p q) (-a3 p q - b3 p q) := by
  obtain ⟨h1, h2, _, _⟩ := h
  have l : 100 * 2 ^ 100 ≤ (2 : Nat) ^ 200 := by decide
  have o : 1 ≤ (2 : Nat) ^ 100 := by decide
  have k : ∀ x : Int, x.natAbs ≤ 50 * 2 ^ 100 → Bd 200 x := fun x hx => by unfold Bd; omega
  unfold Bd at h1 h2
  generalize (2 : Nat) ^ 100 = z at *
  simp only [a2, b2, a3, b3]
  refine ⟨⟨k _ ?_, k _ ?_⟩, ⟨k _ ?_, k _ ?_⟩, ⟨k _ ?_, k _ ?_⟩, ⟨k _ ?_, k _ ?_⟩, ⟨k _ ?_, k _ ?_⟩, ⟨k _ ?_, k _ ?_⟩, ⟨k _ ?_, k _ ?_⟩⟩ <;> omega
theorem Pq.n (h : Pq p q) : n3 p 0 ∧ n3 1 q ∧ n3 (a2 p q) (b2 p q) ∧ n3 (a3 p q) (b3 p q) ∧ n3 (a4 p q) (b4 p q) ∧ n3 (-q) (-1 - q) ∧ n3 (-b2 p q) (-a2 p q - b2 p q) ∧ n3 (-b3 p q) (-a3 p q - b3 p q) := by
  obtain ⟨_, _, h1, h2⟩ := h
  unfold n3
  simp only [a2, b2, a3, b3, a4, b4]
  refine ⟨?_, ?_, ?_, ?_, ?_, ?_, ?_, ?_⟩ <;> (rintro ⟨e1, e2⟩; omega)
abbrev WC : TDT := (dTest (dBin gLt (dLend 3 (dCB gLen (dCons (dVar 3) dNil))) (dC (.int 5))))
abbrev WB : TDS := (dApp 3 (dCallX 2 tf_minus (dCons (dCallX 2 tf_times (dCons (dVar 0) (dCons (dOwnIx 3 (dUn gNeg (dC (.int 1)))) dNil))) (dCons (dOwnIx 3 (dUn gNeg (dC (.int 2)))) dNil))))
abbrev L2k : D := .tup [.int 0, .int (-1), .int 1]
theorem w_go {De : DEnds} {ζ : XW} {s0 s1 s2 : Slot} {n : Nat} {l : List D} (hl : l.length < 5) (k : WB ζ { De with nx := whileN WC WB ζ De n, ct := whileN WC WB ζ De n, bk := De.nx } [s0, s1, s2, .own l]) : whileN WC WB ζ De (n + 1) [s0, s1, s2, .own l] := by
  have e : decide ((l.length : Int) < 5) = true := decide_eq_true (by omega)
  show flatD (.int (l.length : Int)) = true ∧ (if decide ((l.length : Int) < 5) = true then WB ζ { De with nx := whileN WC WB ζ De n, ct := whileN WC WB ζ De n, bk := De.nx } [s0, s1, s2, .own l] else De.nx [s0, s1, s2, .own l])
  rw [e]
  exact ⟨rfl, k⟩
theorem w_end {De : DEnds} {ζ : XW} {s0 s1 s2 : Slot} {n : Nat} {l : List D} (hl : ¬ l.length < 5) (k : De.nx [s0, s1, s2, .own l]) : whileN WC WB ζ De (n + 1) [s0, s1, s2, .own l] := by
  have e : decide ((l.length : Int) < 5) = false := decide_eq_false (by omega)
  show flatD (.int (l.length : Int)) = true ∧ (if decide ((l.length : Int) < 5) = true then WB ζ { De with nx := whileN WC WB ζ De n, ct := whileN WC WB ζ De n, bk := De.nx } [s0, s1, s2, .own l] else De.nx [s0, s1, s2, .own l])
  rw [e]
  exact ⟨rfl, k⟩
theorem w_loop {De : DEnds} {ζ : XW} {s1 s2 : Slot} (h : Pq p q) (k : De.nx [.d L2k, s1, s2, .own (keys p q)]) : whileN WC WB ζ De 4 [.d L2k, s1, s2, .own [T3 p 0 3, T3 1 q 3]] := by
  obtain ⟨g0, g1, g2, g3, g4, g5, g6⟩ := h.b
  obtain ⟨n0, n1, n2, n3', n4, n5, n6, n7⟩ := h.n
  refine w_go (by show 2 < 5; decide) ?_
  refine ⟨rfl, t3 g1 ⟨by decide, by decide⟩ n5 ⟨rfl, m3 g4 g0 ⟨by decide, by decide⟩ n2 ⟨szL 2, ?_⟩⟩⟩
  refine w_go (l := [T3 p 0 3, T3 1 q 3] ++ [T3 (a2 p q) (b2 p q) 3]) (by show 3 < 5; decide) ?_
  refine ⟨rfl, t3 g2 ⟨by decide, by decide⟩ n6 ⟨rfl, m3 g5 g1 ⟨by decide, by decide⟩ n3' ⟨szL 3, ?_⟩⟩⟩
  refine w_go (l := [T3 p 0 3, T3 1 q 3] ++ [T3 (a2 p q) (b2 p q) 3] ++ [T3 (a3 p q) (b3 p q) 3]) (by show 4 < 5; decide) ?_
  refine ⟨rfl, t3 g3 ⟨by decide, by decide⟩ n7 ⟨rfl, m3 g6 g2 ⟨by decide, by decide⟩ n4 ⟨szL 4, ?_⟩⟩⟩
  exact w_end (l := keys p q) (by show ¬ 5 < 5; decide) k
theorem e_five (h : Pq p q) (k : Q (.tup (keys p q))) : tf_five_by_rule ξ [L2k, T3 p 0 3, T3 1 q 3] Q := ⟨szN 2, 4, w_loop h k⟩
theorem e_keys (h : Pq p q) (k : Q (.tup (keys p q))) : tf_keys_by ξ [T3 p 0 3, T3 1 q 3] Q := by
  obtain ⟨g0, g1, _⟩ := h.b
  obtain ⟨n0, n1, _⟩ := h.n
  exact ⟨rfl, r3 g0 ⟨by decide, by decide⟩ n0 ⟨rfl, r3 g1 ⟨by decide, by decide⟩ n1 ⟨rfl, e_five h k⟩⟩⟩
theorem not3 {a b : Int} (h : n3 a b) : (decide (a % 3 = 0) && decide (b % 3 = 0)) = false := by
  rw [Bool.and_eq_false_iff]
  by_cases ha : a % 3 = 0
  · exact .inr (decide_eq_false fun hb => h ⟨ha, hb⟩)
  · exact .inl (decide_eq_false ha)
theorem e_nw {a b : Int} (h : n3 a b) (k : Q (.bl false)) : tf_is_whole ξ [T3 a b 3] Q := e_whole (by decide) (by rw [not3 h]; exact k)
theorem e_dirs (h : Pq p q) (k : Q (.tup [])) : tf__whole_directions ξ [.tup (keys p q)] Q := by
  obtain ⟨n0, n1, n2, n3', n4, _⟩ := h.n
  exact ⟨⟨by decide, by rw [sizeLine_eq]; decide⟩, ⟨rfl, e_nw n0 ⟨rfl, e_nw n1 ⟨rfl, e_nw n2 ⟨rfl, e_nw n3' ⟨rfl, e_nw n4 k⟩⟩⟩⟩⟩⟩
abbrev Z5 : D := .tup [.int 0, .int 0, .int 0, .int 0, .int 0]
theorem e_sides (h : Pq p q) (k : Q (.kt [Z5])) : tf__sides_of_K ξ [.tup (keys p q)] Q := ⟨rfl, e_dirs h ⟨szN 1, k⟩⟩
theorem e_api (k : Q (.bl true)) : tf_are_plain_integers ξ [Z5, .int 5] Q := by
  refine ⟨rfl, ⟨rfl, ?_⟩⟩
  refine ⟨szN 5, ⟨rfl, e_ipi rfl ⟨rfl, e_ipi rfl ⟨rfl, e_ipi rfl ⟨rfl, e_ipi rfl ⟨rfl, e_ipi rfl ?_⟩⟩⟩⟩⟩⟩
  exact k
abbrev FL (p q : Int) : D := .ins "Floor" ["all_keys", "side"] [.tup (keys p q), Z5]
theorem e_init (h : Pq p q) (k : Q (FL p q)) : tf_Floor_init ξ [T3 p 0 3, T3 1 q 3, Z5] Q := by
  intro v
  refine ⟨rfl, e_keys h ?_⟩
  refine ⟨rfl, e_api ?_⟩
  refine ⟨rfl, e_sides h ⟨⟨by decide +kernel, by decide +kernel⟩, ?_⟩⟩
  exact ⟨rfl, _, rfl, k⟩
end
end K10
set_option Elab.async false
set_option linter.all false
set_option maxHeartbeats 400000
set_option maxRecDepth 100000
namespace K10
open PySem PySem.Spec L2 DL
variable {ξ : XT} {Q : D → Prop}
/-! ### a floor in the place of a number -/
section
variable {De : DEnds} {ζ : XW} {U : TDS} {x : D} {s1 s2 : Slot} {p q : Int}
theorem vx_fl : Vx (FL p q) := ⟨trivial, fun a b d e => by cases e⟩
theorem vx_3 {a b d : Int} (ha : Bd 400 a) (hb : Bd 400 b) (hd : Bd 400 d) : Vx (T3 a b d) := by
  refine ⟨fun d m => ?_, fun a' b' d' e => ?_⟩
  · simp only [List.mem_cons, List.not_mem_nil, or_false] at m
    rcases m with rfl | rfl | rfl <;> rfl
  · cases e
    exact ⟨ha, hb, hd⟩
theorem lit400 {i : Int} (h : i.natAbs < 2 ^ 2) : Bd 400 i := Bd.mono (n := 2) h (by decide)
theorem own1 {T : TDE} {d : D} (k : ∀ P : D → Prop, P d → T ζ [.d x, .un, .un] P) (h : U ζ De [.d x, .own [d], .un]) : dSeq (dOwn (lLst (dCons T dNil)) 1) U ζ De [.d x, .un, .un] := k _ ⟨szN 1, h⟩
theorem app1 {T : TDE} {d : D} {l : List D} {n : Nat} (hl : l.length = n) (k : ∀ P : D → Prop, P d → T ζ [.d x, .own l, .un] P) (h : U ζ De [.d x, .own (l ++ [d]), .un]) (hn : n < 1000 := by decide) : dSeq (dApp 1 T) U ζ De [.d x, .own l, .un] := k _ ⟨by rw [hl]; exact szL n hn, h⟩
theorem fr1 {l : List D} (h : U ζ De [.d x, .d (.lst l), .un]) : dFreeze 1 U ζ De [.d x, .own l, .un] := h
theorem gfl : isG (FL p q) = false := rfl
theorem c_plus {P : D → Prop} (h : P (num (FL p q))) : dLam 3 T__law_refused (dCallX 2 tf_plus (dCons (dVar 0) (dCons (dTup (dCons (dC (.int 1)) (dCons (dC (.int 0)) (dCons (dC (.int 1)) dNil)))) dNil))) ζ [.d (FL p q), s1, s2] P := e_ref fun X P' c1 c0 c3 => ⟨szN 3, rfl, F_plus vx_fl (vx_3 (lit400 (by decide)) (lit400 (by decide)) (lit400 (by decide))) (fun _ => c1 _ h) (fun g => nope gfl g) (fun g => nope gfl g)⟩
theorem c_quot {P : D → Prop} (h : P (num (FL p q))) : dLam 3 T__law_refused (dCallX 2 tf_quotient (dCons (dTup (dCons (dC (.int 0)) (dCons (dC (.int 0)) (dCons (dC (.int 1)) dNil)))) (dCons (dVar 0) dNil))) ζ [.d (FL p q), s1, s2] P := e_ref fun X P' c1 c0 c3 => ⟨szN 3, rfl, F_quot (vx_3 (lit400 (by decide)) (lit400 (by decide)) (lit400 (by decide))) vx_fl (fun g => by cases g) (fun _ _ => c1 _ h) (fun _ g => nope gfl g)⟩
theorem c_sign {P : D → Prop} (h : P (num (FL p q))) : dLam 3 T__law_refused (dCallX 1 tf_sign (dCons (dVar 0) dNil)) ζ [.d (FL p q), s1, s2] P := e_ref fun X P' c1 c0 c3 => ⟨rfl, F_sign vx_fl (fun _ => c1 _ h) (fun g => nope gfl g)⟩
theorem c_below {P : D → Prop} (h : P (num (FL p q))) : dLam 3 T__law_refused (dCallKX 2 2 [1, 0] tf_is_below (dCons (dVar 0) (dCons (dTup (dCons (dC (.int 2)) (dCons (dC (.int 1)) (dCons (dC (.int 1)) dNil)))) dNil))) ζ [.d (FL p q), s1, s2] P := e_ref fun X P' c1 c0 c3 => ⟨szN 3, ⟨rfl, rfl⟩, F_below (vx_3 (lit400 (by decide)) (lit400 (by decide)) (lit400 (by decide))) vx_fl (fun g => by cases g) (fun _ _ => c1 _ h) (fun _ g => nope gfl g)⟩
theorem neS {a : Str} {P : D → Prop} (h : P (.bl false)) : gNe (.str a) (.str a) P := by
  show P (.bl (!decide (a = a)))
  rw [decide_eq_true rfl]
  exact h
theorem eqOk_k : eqOk (.tup (keys p q)) = true := by
  simp [keys, eqOk, DL.plain, plains, toP, toPs, SeqAt.shaped, PyData.canLay0, PyData.canLayAll0, PyData.depth, PyData.depthAll]
theorem eqv_k : PyData.eqv (toP (.tup (keys p q))) (toP (.tup (keys p q))) = true := by
  simp [keys, toP, toPs, PyData.eqv, PyData.eqvAll]
theorem eq_keys {P : D → Prop} (h : P (.bl true)) : gEq (.tup (keys p q)) (.tup (keys p q)) P := by
  refine ⟨⟨eqOk_k, eqOk_k⟩, ?_⟩
  rw [eqv_k]
  exact h
theorem eq_side {P : D → Prop} (h : P (.bl true)) : gEq Z5 Z5 P := ⟨⟨by decide +kernel, by decide +kernel⟩, by
  rw [show PyData.eqv (toP Z5) (toP Z5) = true by decide +kernel]
  exact h⟩
theorem fld_k {P : D → Prop} (h : P (.tup (keys p q))) : gFld "all_keys" (FL p q) P := by
  show (match ((["all_keys", "side"] : List Str).zip [.tup (keys p q), Z5]).lookup ("all_keys" : Str) with
    | some d => P d
    | none => False)
  rw [show ((["all_keys", "side"] : List Str).zip [.tup (keys p q), Z5]).lookup ("all_keys" : Str) = some (.tup (keys p q)) from rfl]
  exact h
theorem fld_s {P : D → Prop} (h : P Z5) : gFld "side" (FL p q) P := by
  show (match ((["all_keys", "side"] : List Str).zip [.tup (keys p q), Z5]).lookup ("side" : Str) with
    | some d => P d
    | none => False)
  rw [show ((["all_keys", "side"] : List Str).zip [.tup (keys p q), Z5]).lookup ("side" : Str) = some Z5 from rfl]
  exact h
theorem e_eqF {P : D → Prop} (h : P (.bl true)) : tf_Floor_eq ξ [FL p q, FL p q] P := by
  show T_Floor_eq (fun _ _ => False) { nx := fun _ => P .non, rt := P } [.d (FL p q), .d (FL p q)]
  refine ⟨rfl, ?_⟩
  refine ⟨⟨eqOk_k, eqOk_k⟩, ?_⟩
  rw [eqv_k]
  refine ⟨⟨by decide +kernel, by decide +kernel⟩, ?_⟩
  rw [show PyData.eqv (toP Z5) (toP Z5) = true by decide +kernel]
  exact h
/-- the loop's body at what is told -/
theorem e_it {l : List D} (h : De.nx [.d (FL p q), .d (.lst l), .d (num (FL p q))]) : dIfS (dtOr (dTest (dBin gIsN (dVar 2) (dC .non))) (dtOr (dTest (dBin gNe (dBin gIx (dVar 2) (dC (.int 0))) (dC (.str "number")))) (dtOr (dtNot (dTest (dUn (gIsC "Floor") (dBin gIx (dVar 2) (dC (.int 1)))))) (dtNot (dTest (dBin (gEqI "Floor" tf_Floor_eq) (dBin gIx (dVar 2) (dC (.int 1))) (dVar 0)))))))
    (dRet (dC (.bl false)))
    dNext ζ De [.d (FL p q), .d (.lst l), .d (num (FL p q))] := by
  refine ⟨rfl, ?_⟩
  refine ⟨⟨rfl, rfl⟩, e_eqF ?_⟩
  exact h
theorem e_flref (h : Q (.bl true)) : tf__law_is_floor_refused ξ [FL p q] Q := by
  show T__law_is_floor_refused (fun _ _ => False) { nx := fun _ => Q .non, rt := Q } [.d (FL p q), .un, .un]
  unfold T__law_is_floor_refused
  refine own1 (fun P h => c_plus h) ?_
  refine app1 (n := 1) rfl (fun P h => c_quot h) ?_
  refine app1 (n := 2) rfl (fun P h => c_sign h) ?_
  refine app1 (n := 3) rfl (fun P h => c_below h) ?_
  refine fr1 ?_
  refine e_it (e_it (e_it (e_it ?_)))
  refine ⟨rfl, e_isG trivial ⟨szN 3, rfl, e_isG ?_ ⟨szN 2, szN 2, rfl, e_same (gd_bb false) h⟩⟩⟩
  intro d m
  simp only [List.mem_cons, List.not_mem_nil, or_false] at m
  rcases m with rfl | rfl | rfl <;> rfl
end
end K10
set_option Elab.async false
set_option linter.all false
set_option maxHeartbeats 400000
set_option maxRecDepth 100000
namespace K10
open PySem PySem.Spec L2 DL
variable {ξ : XT} {Q : D → Prop}
/-! ### powers -/
abbrev PB : TDS := (dIfS (dTest (dBin gGt (dVar 0) (dC (.int 0))))
    (dPar 1 2 (dCons (dVar 2) (dCons (dBin gAddA (dVar 1) (dVar 2)) dNil)))
    (dPar 1 2 (dCons (dBin gSub (dVar 2) (dVar 1)) (dCons (dVar 1) dNil))))
theorem pw_loop {ζ : XW} {n : Int} (hn : 0 < n) : ∀ (items : List D) {De : DEnds} (m : Nat) (a b : Int) (s : Slot), Bd m a → Bd m b → m + items.length ≤ 300 → (∀ a b s, Bd 300 a → Bd 300 b → De.nx [.d (.int n), .d (.int a), .d (.int b), s]) → forD (dgName 3) PB ζ De items [.d (.int n), .d (.int a), .d (.int b), s]
  | [], De, m, a, b, s, ha, hb, l, h => h a b s (ha.mono (by simpa using l)) (hb.mono (by simpa using l))
  | d :: ds, De, m, a, b, s, ha, hb, l, h => by
    have l : m + (ds.length + 1) ≤ 300 := l
    have z := pw_loop (ζ := ζ) hn ds (De := De) (m + 1) b (a + b) (.d d) (hb.mono (by omega)) (ha.add hb) (by omega) h
    have e : decide (n > 0) = true := decide_eq_true hn
    show (if decide (n > 0) = true then _ else _)
    rw [e]
    exact z
theorem e_power {n : Int} (h0 : 0 < n) (h1 : n ≤ 250) (h : ∀ a b, B3 a b 1 → Q (T3 a b 1)) : tf_power ξ [.int n] Q := by
  show T_power (fun x _ => ξ x) { nx := fun _ => Q .non, rt := Q } [.d (.int n), .un, .un, .un]
  unfold T_power
  have ab : (if n < 0 then -n else n) = n := if_neg (by omega)
  refine ⟨rfl, e_ipi rfl ?_⟩
  show (if decide ((if n < 0 then -n else n) > 2000) = true then _ else _)
  rw [ab, decide_eq_false (by omega : ¬ n > 2000)]
  show (-(2 ^ 62) ≤ (if n < 0 then -n else n) ∧ (if n < 0 then -n else n) < 2 ^ 62) ∧ forD (dgName 3) PB _ _ (intsD 0 (if n < 0 then -n else n).toNat) [.d (.int n), .d (.int 1), .d (.int 0), .un]
  rw [ab]
  refine ⟨⟨by omega, by omega⟩, pw_loop h0 _ 2 1 0 .un (.lit (by decide)) (.lit (by decide)) ?_ fun a b s ha hb => ?_⟩
  · unfold intsD
    rw [List.length_map, List.length_range]
    omega
  · exact ⟨szN 3, h a b ⟨ha.mono (by decide), hb.mono (by decide), Bd.mono (n := 2) (.lit (by decide)) (by decide)⟩⟩
/-! ### a turn -/
abbrev EE (s2 s3 s4 s5 s6 : Slot) : SE := [.un, .d .deck, s2, s3, s4, s5, s6]
def BODY : TDS := (dSeq (dPar 3 4 (dCons (dCall 1 tf__law_value (dCons (dVar 1) dNil)) (dCons (dCall 1 tf__law_value (dCons (dVar 1) dNil)) dNil)))
    (dSeq (dIfS (dTest (dBin gEq (dCall 2 tf_draw (dCons (dVar 1) (dCons (dC (.int 6)) dNil))) (dC (.int 0))))
    (dAsg (dVar 3) (dgName 4))
    dNext)
    (dSeq (dAsg (dCB gReprR (dCons (dTup (dCons (dVar 3) (dCons (dVar 4) dNil))) dNil)) (dgName 5))
    (dIfS (dtOr (dtNot (dTest (dCall 2 tf__law_two_right (dCons (dVar 3) (dCons (dVar 4) dNil))))) (dtOr (dtNot (dTest (dCall 1 tf__law_one_right (dCons (dVar 3) dNil)))) (dtNot (dTest (dCall 2 tf__law_same (dCons (dCB gReprR (dCons (dTup (dCons (dVar 3) (dCons (dVar 4) dNil))) dNil)) (dCons (dVar 5) dNil)))))))
    (dRet (dC (.bl false)))
    dNext))))
section
variable {De : DEnds} {ζ : XW} {U : TDS} {s2 s3 s4 s5 s6 : Slot} {x y : D}
theorem l1 (h : ∀ x y, Vd 3400 4 x → Vd 3400 4 y → U ζ De (EE s2 (.d x) (.d y) s5 s6)) : dSeq (dPar 3 4 (dCons (dCall 1 tf__law_value (dCons (dVar 1) dNil)) (dCons (dCall 1 tf__law_value (dCons (dVar 1) dNil)) dNil))) U ζ De (EE s2 s3 s4 s5 s6) :=
  ⟨rfl, e_value fun x vx => ⟨rfl, e_value fun y vy => h x y vx vy⟩⟩
theorem l2 (vx : Vd 3400 4 x) (vy : Vd 3400 4 y) (h : ∀ y, Vd 3400 4 y → U ζ De (EE s2 (.d x) (.d y) s5 s6)) : dSeq (dIfS (dTest (dBin gEq (dCall 2 tf_draw (dCons (dVar 1) (dCons (dC (.int 6)) dNil))) (dC (.int 0))))
    (dAsg (dVar 3) (dgName 4))
    dNext) U ζ De (EE s2 (.d x) (.d y) s5 s6) := by
  refine ⟨rfl, e_draw (by decide) (by decide) fun r r0 r1 => ?_⟩
  refine ifd (fun _ => ?_) (fun _ => ?_)
  · exact h x vx
  · exact h y vy
theorem two_gd (vx : Vd 3400 4 x) (vy : Vd 3400 4 y) : Gd 6900 5 (.tup [x, y]) := (gd_tup (n := 2) (w := 3400) (k := 4) (ds := [x, y]) (by
  simp only [List.mem_cons, List.not_mem_nil, or_false, forall_eq_or_imp, forall_eq]
  exact ⟨vx.g, vy.g⟩) (Nat.le_refl 2)).mono (by decide) (by decide)
abbrev tx (x y : D) : D := .str (toP (.tup [x, y])).shown
theorem l3 (g : Gd 6900 5 (.tup [x, y])) (h : U ζ De (EE s2 (.d x) (.d y) (.d (tx x y)) s6)) : dSeq (dAsg (dCB gReprR (dCons (dTup (dCons (dVar 3) (dCons (dVar 4) dNil))) dNil)) (dgName 5)) U ζ De (EE s2 (.d x) (.d y) s5 s6) :=
  ⟨szN 2, g.show (by decide) (by decide), h⟩
theorem l4 (vx : Vd 3400 4 x) (vy : Vd 3400 4 y) (g : Gd 6900 5 (.tup [x, y])) (h : De.nx (EE s2 (.d x) (.d y) (.d (tx x y)) s6)) : (dIfS (dtOr (dtNot (dTest (dCall 2 tf__law_two_right (dCons (dVar 3) (dCons (dVar 4) dNil))))) (dtOr (dtNot (dTest (dCall 1 tf__law_one_right (dCons (dVar 3) dNil)))) (dtNot (dTest (dCall 2 tf__law_same (dCons (dCB gReprR (dCons (dTup (dCons (dVar 3) (dCons (dVar 4) dNil))) dNil)) (dCons (dVar 5) dNil)))))))
    (dRet (dC (.bl false)))
    dNext) ζ De (EE s2 (.d x) (.d y) (.d (tx x y)) s6) :=
  ⟨rfl, e_two vx vy ⟨rfl, e_one vx ⟨szN 2, g.show (by decide) (by decide), rfl, e_same ((gd_str g.ln g.cs).show (by decide) (by decide)) h⟩⟩⟩
theorem e_body {t2 t3 t4 t5 : Slot} (h : ∀ s2 s3 s4 s5, De.nx (EE s2 s3 s4 s5 s6)) : BODY ζ De (EE t2 t3 t4 t5 s6) := by
  unfold BODY
  refine l1 fun x y vx vy => ?_
  refine l2 vx vy fun y vy => ?_
  refine l3 (two_gd vx vy) ?_
  exact l4 vx vy (two_gd vx vy) (h _ _ _ _)
theorem e_loop : ∀ (items : List D) {De : DEnds} {t2 t3 t4 t5 : Slot}, (∀ s2 s3 s4 s5, De.nx (EE s2 s3 s4 s5 s6)) → forD (dgName 2) BODY ζ De items (EE t2 t3 t4 t5 s6)
  | [], De, t2, t3, t4, t5, h => h _ _ _ _
  | d :: ds, De, t2, t3, t4, t5, h => e_body (De := { De with nx := forD (dgName 2) BODY ζ De ds, ct := forD (dgName 2) BODY ζ De ds, bk := De.nx }) (t2 := .d d) fun s2 s3 s4 s5 => e_loop ds h
theorem n1 (h : ∀ a b, B3 a b 1 → U ζ De (EE s2 s3 s4 s5 (.d (T3 a b 1)))) : dSeq (dAsg (dCallX 1 tf_power (dCons (dBin gSub (dC (.int 250)) (dCall 2 tf_draw (dCons (dVar 1) (dCons (dC (.int 50)) dNil)))) dNil)) (dgName 6)) U ζ De (EE s2 s3 s4 s5 s6) := by
  refine ⟨rfl, e_draw (by decide) (by decide) fun r r0 r1 => ?_⟩
  exact ⟨rfl, e_power (by omega) (by omega) h⟩
theorem n2 {a b : Int} (g : B3 a b 1) (h : U ζ De (EE s2 s3 s4 s5 (.d (T3 a b 1)))) : dSeq (dIfS (dtOr (dtNot (dTest (dCall 1 tf__law_one_right (dCons (dVar 6) dNil)))) (dtOr (dtNot (dTest (dCall 1 tf__law_one_right (dCons (dBin gAddA (dSl (dVar 6) (dPart (dC (.int 1))) dNoPart) (dTup (dCons (dUn gNeg (dBin gIx (dVar 6) (dC (.int 0)))) dNil))) dNil)))) (dtNot (dTest (dCall 1 tf__law_one_right (dCons (dSl (dVar 6) dNoPart (dPart (dC (.int 2)))) dNil))))))
    (dRet (dC (.bl false)))
    dNext) U ζ De (EE s2 s3 s4 s5 (.d (T3 a b 1))) := by
  obtain ⟨p, q, r⟩ := g.parts
  have v1 : Vd 3400 4 (T3 b 1 (-a)) := B3.vd (a := b) (b := 1) (d := -a) ⟨g.b, g.d, g.a.neg⟩ |>.mono
  have v2 : Vd 3400 4 (.tup [.int a, .int b]) := (vd_tup (n := 2) (w := 110) (k := 0) (ds := [.int a, .int b]) (by
    simp only [List.mem_cons, List.not_mem_nil, or_false, forall_eq_or_imp, forall_eq]
    exact ⟨p, q⟩) (Nat.le_refl 2)).mono
  exact ⟨rfl, e_one g.vd.mono ⟨szN 1, szN 3, rfl, e_one v1 ⟨rfl, e_one v2 h⟩⟩⟩
theorem n3' (h : U ζ De (EE s2 s3 s4 s5 s6)) : dSeq (dIfS (dtNot (dTest (dCall 1 tf__law_is_great_right (dCons (dVar 1) dNil))))
    (dRet (dC (.bl false)))
    dNext) U ζ De (EE s2 s3 s4 s5 s6) := ⟨rfl, e_great h⟩
theorem pq {x y : Int} (hx : Bd 40 x) (hy : Bd 40 y) : Pq (3 * x + 1) (3 * y) := by
  have c3 : Bd 2 (3 : Int) := .lit (by decide)
  refine ⟨?_, ?_, by omega, by omega⟩
  · exact (((c3.mul hx).mono (m := 50) (by decide)).add (Bd.mono (n := 2) (.lit (by decide)) (by decide))).mono (by decide)
  · exact (c3.mul hy).mono (by decide)
theorem n4 (h : De.rt (.bl true)) : (dRet (dCall 1 tf__law_is_floor_refused (dCons (dMk 3 [.tup [.int (0), .int (0), .int (0), .int (0), .int (0)]] tf_Floor_init (dCons (dTup (dCons (dBin gAddA (dBin gMulA (dC (.int 3)) (dCall 2 tf__law_integer (dCons (dVar 1) (dCons (dC (.int 2)) dNil)))) (dC (.int 1))) (dCons (dC (.int 0)) (dCons (dC (.int 3)) dNil)))) (dCons (dTup (dCons (dC (.int 1)) (dCons (dBin gMulA (dC (.int 3)) (dCall 2 tf__law_integer (dCons (dVar 1) (dCons (dC (.int 2)) dNil)))) (dCons (dC (.int 3)) dNil)))) dNil))) dNil))) ζ De (EE s2 s3 s4 s5 s6) := by
  refine ⟨rfl, e_integer (k := 2) (by decide) (by decide) fun x hx => ⟨Bd.cmul (n := 2) Bd.lit hx, szN 3, ?_⟩⟩
  refine ⟨rfl, e_integer (k := 2) (by decide) (by decide) fun y hy => ⟨Bd.cmul (n := 2) Bd.lit hy, szN 3, ?_⟩⟩
  exact ⟨rfl, e_init (pq hx hy) ⟨rfl, e_flref h⟩⟩
end
theorem math : T_law (fun _ _ => False) { nx := fun _ => False, rt := fun d => d = .bl true } (.un :: .d .deck :: List.replicate 5 .un) := by
  unfold T_law
  refine ⟨⟨by decide, by decide⟩, e_loop (ζ := fun _ _ => False) _ fun s2 s3 s4 s5 => ?_⟩
  refine n1 fun a b g => ?_
  refine n2 g ?_
  refine n3' ?_
  exact n4 rfl
end K10
set_option Elab.async false
set_option linter.all false
set_option maxRecDepth 100000
set_option maxHeartbeats 4000000
namespace K10
open PySem PySem.Spec L2 DL
open PyProof.Rows hiding St
theorem facts {P : Program} {w : World} {K : PySem.W.Frag} {h : Heap} {mg : Str → Option Value} {f : Addr} (X : K.In h) (G : h.Ns mainGlobals mg) (hfa : mg ("law" : Str) = some (.ref f)) (c : He.SaysD faL fn K) (ce : ex K = true) :
    ∃ fd : FuncData, tabNB K TN = true ∧ (∀ (s : Shared) (v : Value), BindsTo s fd ⟨[v], []⟩ [("_law_script", v)]) ∧ ∀ base : Heap, K.In base → base.Ns mainGlobals mg → TBs K mg base TN → FnG P w K mg base CX0 9 f fd ["_law_script"] (spLaw K 5 T_law) := by
  obtain ⟨fd0, F0⟩ := c.def_ 0 (d := dd_is_plain_integer) rfl
  obtain ⟨fd1, F1⟩ := c.def_ 1 (d := dd_is_tuple_of) rfl
  obtain ⟨fd2, F2⟩ := c.def_ 2 (d := dd_are_plain_integers) rfl
  obtain ⟨fd3, F3⟩ := c.def_ 3 (d := dd__block) rfl
  obtain ⟨fd4, F4⟩ := c.def_ 4 (d := dd_integer_text) rfl
  obtain ⟨fd5, F5⟩ := c.def_ 5 (d := dd_is_golden) rfl
  obtain ⟨fd6, F6⟩ := c.def_ 6 (d := dd_need_golden) rfl
  obtain ⟨fd7, F7⟩ := c.def_ 7 (d := dd__lowest) rfl
  obtain ⟨fd8, F8⟩ := c.def_ 8 (d := dd_reduced) rfl
  obtain ⟨fd9, F9⟩ := c.def_ 9 (d := dd_plus) rfl
  obtain ⟨fd10, F10⟩ := c.def_ 10 (d := dd_minus) rfl
  obtain ⟨fd11, F11⟩ := c.def_ 11 (d := dd_times) rfl
  obtain ⟨fd12, F12⟩ := c.def_ 12 (d := dd_quotient) rfl
  obtain ⟨fd13, F13⟩ := c.def_ 13 (d := dd_sign_of_parts) rfl
  obtain ⟨fd14, F14⟩ := c.def_ 14 (d := dd__order) rfl
  obtain ⟨fd15, F15⟩ := c.def_ 15 (d := dd_sign) rfl
  obtain ⟨fd16, F16⟩ := c.def_ 16 (d := dd_is_below) rfl
  obtain ⟨fd17, F17⟩ := c.def_ 17 (d := dd_are_equal) rfl
  obtain ⟨fd18, F18⟩ := c.def_ 18 (d := dd_integer_below) rfl
  obtain ⟨fd19, F19⟩ := c.def_ 19 (d := dd_integer_above) rfl
  obtain ⟨fd20, F20⟩ := c.def_ 20 (d := dd_is_whole) rfl
  obtain ⟨fd21, F21⟩ := c.def_ 21 (d := dd_conjugate) rfl
  obtain ⟨fd22, F22⟩ := c.def_ 22 (d := dd_power) rfl
  obtain ⟨fd23, F23⟩ := c.def_ 23 (d := dd_number_text) rfl
  obtain ⟨fd24, F24⟩ := c.def_ 24 (d := dd_five_by_rule) rfl
  obtain ⟨fd25, F25⟩ := c.def_ 25 (d := dd_led_round) rfl
  obtain ⟨fd26, F26⟩ := c.def_ 26 (d := dd_with_part) rfl
  obtain ⟨fd27, F27⟩ := c.def_ 27 (d := dd_stepped) rfl
  obtain ⟨fd28, F28⟩ := c.def_ 28 (d := dd_keys_by) rfl
  obtain ⟨fd29, F29⟩ := c.def_ 29 (d := dd__whole_directions) rfl
  obtain ⟨fd30, F30⟩ := c.def_ 30 (d := dd__sides_of) rfl
  obtain ⟨fd31, F31⟩ := c.def_ 31 (d := dd_Floor_init) rfl
  obtain ⟨fd32, F32⟩ := c.def_ 32 (d := dd_Floor_eq) rfl
  obtain ⟨fd33, F33⟩ := c.def_ 33 (d := dd__law_deck) rfl
  obtain ⟨fd34, F34⟩ := c.def_ 34 (d := dd__law_draw) rfl
  obtain ⟨fd35, F35⟩ := c.def_ 35 (d := dd__law_pick) rfl
  obtain ⟨fd36, F36⟩ := c.def_ 36 (d := dd__law_integer) rfl
  obtain ⟨fd37, F37⟩ := c.def_ 37 (d := dd__law_same) rfl
  obtain ⟨fd38, F38⟩ := c.def_ 38 (d := dd__law_golden) rfl
  obtain ⟨fd39, F39⟩ := c.def_ 39 (d := dd__law_odd) rfl
  obtain ⟨fd40, F40⟩ := c.def_ 40 (d := dd__law_bent) rfl
  obtain ⟨fd41, F41⟩ := c.def_ 41 (d := dd__law_is_golden) rfl
  obtain ⟨fd42, F42⟩ := c.def_ 42 (d := dd__law_value) rfl
  obtain ⟨fd43, F43⟩ := c.def_ 43 (d := dd__law_refused) rfl
  obtain ⟨fd44, F44⟩ := c.def_ 44 (d := dd__law_two_right) rfl
  obtain ⟨fd45, F45⟩ := c.def_ 45 (d := dd__law_one_right) rfl
  obtain ⟨fd46, F46⟩ := c.def_ 46 (d := dd__law_is_floor_refused) rfl
  obtain ⟨fd47, F47⟩ := c.def_ 47 (d := dd__law_is_great_right) rfl
  obtain ⟨fd48, F48⟩ := c.def_ 48 (d := dd_law) rfl
  obtain ⟨fi0, I0⟩ := c.def_ 49 (d := di_BadNumber) rfl
  obtain ⟨fi1, I1⟩ := c.def_ 50 (d := di_BadPower) rfl
  obtain ⟨fi2, I2⟩ := c.def_ 51 (d := di_BadSide) rfl
  simp only [ex, Bool.and_eq_true] at ce
  obtain ⟨⟨⟨⟨⟨⟨⟨⟨⟨⟨⟨⟨⟨⟨⟨⟨⟨⟨⟨⟨⟨⟨⟨⟨⟨⟨⟨⟨⟨⟨⟨⟨⟨⟨⟨⟨⟨⟨⟨⟨⟨⟨⟨⟨⟨⟨⟨⟨⟨⟨⟨⟨⟨⟨⟨⟨⟨⟨⟨⟨⟨⟨⟨⟨⟨⟨⟨⟨ce0, ce1⟩, ce2⟩, ce3⟩, ce4⟩, ce5⟩, ce6⟩, ce7⟩, ce8⟩, ce9⟩, ce10⟩, ce11⟩, ce12⟩, ce13⟩, ce14⟩, ce15⟩, ce16⟩, ce17⟩, ce18⟩, ce19⟩, ce20⟩, ce21⟩, ce22⟩, ce23⟩, ce24⟩, ce25⟩, ce26⟩, ce27⟩, ce28⟩, ce29⟩, ce30⟩, ce31⟩, ce32⟩, ce33⟩, ce34⟩, ce35⟩, ce36⟩, ce37⟩, ce38⟩, ce39⟩, ce40⟩, ce41⟩, ce42⟩, ce43⟩, ce44⟩, ce45⟩, ce46⟩, ce47⟩, ce48⟩, ce49⟩, ce50⟩, ce51⟩, ce52⟩, ce53⟩, ce54⟩, ce55⟩, ce56⟩, ce57⟩, ce58⟩, ce59⟩, ce60⟩, ce61⟩, ce62⟩, ce63⟩, ce64⟩, ce65⟩, ce66⟩, ce67⟩, ce68⟩ := ce
  obtain ⟨ax0, X0⟩ := exf_ok X G ce9
  obtain ⟨ax1, X1⟩ := exf_ok X G ce11
  obtain ⟨ax2, X2⟩ := exf_ok X G ce13
  obtain ⟨ar0, R0⟩ := ref_ok X G ce15
  obtain ⟨ar1, R1⟩ := ref_ok X G ce16
  obtain ⟨ar2, R2⟩ := ref_ok X G ce17
  obtain ⟨ar3, R3⟩ := ref_ok X G ce18
  obtain ⟨ar4, R4⟩ := ref_ok X G ce19
  obtain ⟨ar5, R5⟩ := ref_ok X G ce20
  obtain ⟨ar6, R6⟩ := ref_ok X G ce21
  obtain ⟨ac0, C0⟩ := cls_ok X G ce63
  let t : Tx K mg := ⟨_,
    fd0,
    F0,
    (He.glo_ok X G (c.fact 0 (f := .glo "is_plain_integer") rfl)),
    _,
    fd1,
    F1,
    (He.glo_ok X G (c.fact 1 (f := .glo "is_tuple_of") rfl)),
    _,
    fd2,
    F2,
    (He.glo_ok X G (c.fact 2 (f := .glo "are_plain_integers") rfl)),
    _,
    fd3,
    F3,
    (He.glo_ok X G (c.fact 3 (f := .glo "_block") rfl)),
    _,
    fd4,
    F4,
    (He.glo_ok X G (c.fact 4 (f := .glo "integer_text") rfl)),
    _,
    fd5,
    F5,
    (He.glo_ok X G (c.fact 5 (f := .glo "is_golden") rfl)),
    _,
    fd6,
    F6,
    (He.glo_ok X G (c.fact 6 (f := .glo "need_golden") rfl)),
    _,
    fd7,
    F7,
    (He.glo_ok X G (c.fact 7 (f := .glo "_lowest") rfl)),
    _,
    fd8,
    F8,
    (He.glo_ok X G (c.fact 8 (f := .glo "reduced") rfl)),
    _,
    fd9,
    F9,
    (He.glo_ok X G (c.fact 9 (f := .glo "plus") rfl)),
    _,
    fd10,
    F10,
    (He.glo_ok X G (c.fact 10 (f := .glo "minus") rfl)),
    _,
    fd11,
    F11,
    (He.glo_ok X G (c.fact 11 (f := .glo "times") rfl)),
    _,
    fd12,
    F12,
    (He.glo_ok X G (c.fact 12 (f := .glo "quotient") rfl)),
    _,
    fd13,
    F13,
    (He.glo_ok X G (c.fact 13 (f := .glo "sign_of_parts") rfl)),
    _,
    fd14,
    F14,
    (He.glo_ok X G (c.fact 14 (f := .glo "_order") rfl)),
    _,
    fd15,
    F15,
    (He.glo_ok X G (c.fact 15 (f := .glo "sign") rfl)),
    _,
    fd16,
    F16,
    (He.glo_ok X G (c.fact 16 (f := .glo "is_below") rfl)),
    _,
    fd17,
    F17,
    (He.glo_ok X G (c.fact 17 (f := .glo "are_equal") rfl)),
    _,
    fd18,
    F18,
    (He.glo_ok X G (c.fact 18 (f := .glo "integer_below") rfl)),
    _,
    fd19,
    F19,
    (He.glo_ok X G (c.fact 19 (f := .glo "integer_above") rfl)),
    _,
    fd20,
    F20,
    (He.glo_ok X G (c.fact 20 (f := .glo "is_whole") rfl)),
    _,
    fd21,
    F21,
    (He.glo_ok X G (c.fact 21 (f := .glo "conjugate") rfl)),
    _,
    fd22,
    F22,
    (He.glo_ok X G (c.fact 22 (f := .glo "power") rfl)),
    _,
    fd23,
    F23,
    (He.glo_ok X G (c.fact 23 (f := .glo "number_text") rfl)),
    _,
    fd24,
    F24,
    (He.glo_ok X G (c.fact 24 (f := .glo "five_by_rule") rfl)),
    _,
    fd25,
    F25,
    (He.glo_ok X G (c.fact 25 (f := .glo "led_round") rfl)),
    _,
    fd26,
    F26,
    (He.glo_ok X G (c.fact 26 (f := .glo "with_part") rfl)),
    _,
    fd27,
    F27,
    (He.glo_ok X G (c.fact 27 (f := .glo "stepped") rfl)),
    _,
    fd28,
    F28,
    (He.glo_ok X G (c.fact 28 (f := .glo "keys_by") rfl)),
    _,
    fd29,
    F29,
    (He.glo_ok X G (c.fact 29 (f := .glo "_whole_directions") rfl)),
    _,
    fd30,
    F30,
    (He.glo_ok X G (c.fact 30 (f := .glo "_sides_of") rfl)),
    _,
    (dflIB_ok ce68),
    _,
    fd31,
    F31,
    _,
    fd32,
    F32,
    _,
    fd33,
    F33,
    (He.glo_ok X G (c.fact 31 (f := .glo "_law_deck") rfl)),
    _,
    fd34,
    F34,
    (He.glo_ok X G (c.fact 32 (f := .glo "_law_draw") rfl)),
    _,
    fd35,
    F35,
    (He.glo_ok X G (c.fact 33 (f := .glo "_law_pick") rfl)),
    _,
    fd36,
    F36,
    (He.glo_ok X G (c.fact 34 (f := .glo "_law_integer") rfl)),
    _,
    fd37,
    F37,
    (He.glo_ok X G (c.fact 35 (f := .glo "_law_same") rfl)),
    _,
    fd38,
    F38,
    (He.glo_ok X G (c.fact 36 (f := .glo "_law_golden") rfl)),
    _,
    fd39,
    F39,
    (He.glo_ok X G (c.fact 37 (f := .glo "_law_odd") rfl)),
    _,
    fd40,
    F40,
    (He.glo_ok X G (c.fact 38 (f := .glo "_law_bent") rfl)),
    _,
    fd41,
    F41,
    (He.glo_ok X G (c.fact 39 (f := .glo "_law_is_golden") rfl)),
    _,
    fd42,
    F42,
    (He.glo_ok X G (c.fact 40 (f := .glo "_law_value") rfl)),
    _,
    fd43,
    F43,
    (He.glo_ok X G (c.fact 41 (f := .glo "_law_refused") rfl)),
    _,
    fd44,
    F44,
    (He.glo_ok X G (c.fact 42 (f := .glo "_law_two_right") rfl)),
    _,
    fd45,
    F45,
    (He.glo_ok X G (c.fact 43 (f := .glo "_law_one_right") rfl)),
    _,
    fd46,
    F46,
    (He.glo_ok X G (c.fact 44 (f := .glo "_law_is_floor_refused") rfl)),
    _,
    fd47,
    F47,
    (He.glo_ok X G (c.fact 45 (f := .glo "_law_is_great_right") rfl)),
    _,
    fd48,
    F48,
    (He.glo_ok X G (c.fact 46 (f := .glo "law") rfl)),
    (He.free_ok X G (c.fact 47 (f := .free "abs") rfl)),
    (He.free_ok X G (c.fact 48 (f := .free "all") rfl)),
    (He.free_ok X G (c.fact 49 (f := .free "bool") rfl)),
    (He.free_ok X G (c.fact 50 (f := .free "divmod") rfl)),
    (He.free_ok X G (c.fact 51 (f := .free "int") rfl)),
    (He.free_ok X G (c.fact 52 (f := .free "isinstance") rfl)),
    (He.free_ok X G (c.fact 53 (f := .free "len") rfl)),
    (He.free_ok X G (c.fact 54 (f := .free "list") rfl)),
    (He.free_ok X G (c.fact 55 (f := .free "max") rfl)),
    (He.free_ok X G (c.fact 56 (f := .free "range") rfl)),
    (He.free_ok X G (c.fact 57 (f := .free "repr") rfl)),
    (He.free_ok X G (c.fact 58 (f := .free "str") rfl)),
    (He.free_ok X G (c.fact 59 (f := .free "tuple") rfl)),
    (blt_ok X G ce0),
    (blt_ok X G ce1),
    (gint_ok X G ce2),
    (tupIB_ok X G ce3),
    (gint_ok X G ce4),
    (tupIB_ok X G ce5),
    (tupIB_ok X G ce6),
    (insB_ok ce65),
    (mkB_ok ce66),
    (mg_ins X G (insB_ok ce65)),
    (eqB_ok ce67),
    ce7,
    ce8,
    ax0,
    _,
    X0,
    fi0,
    I0,
    (exis_ok ce10),
    ax1,
    _,
    X1,
    fi1,
    I1,
    (exis_ok ce12),
    ax2,
    _,
    X2,
    fi2,
    I2,
    (exis_ok ce14),
    ar0,
    R0,
    ar1,
    R1,
    ar2,
    R2,
    ar3,
    R3,
    ar4,
    R4,
    ar5,
    R5,
    ar6,
    R6,
    (of_decide_eq_true ce22),
    (of_decide_eq_true ce23),
    (of_decide_eq_true ce24),
    (of_decide_eq_true ce25),
    (of_decide_eq_true ce26),
    (of_decide_eq_true ce27),
    (of_decide_eq_true ce28),
    (of_decide_eq_true ce29),
    (of_decide_eq_true ce30),
    (of_decide_eq_true ce31),
    (of_decide_eq_true ce32),
    (of_decide_eq_true ce33),
    (of_decide_eq_true ce34),
    (of_decide_eq_true ce35),
    (of_decide_eq_true ce36),
    (of_decide_eq_true ce37),
    (of_decide_eq_true ce38),
    (of_decide_eq_true ce39),
    (of_decide_eq_true ce40),
    (of_decide_eq_true ce41),
    (of_decide_eq_true ce42),
    (of_decide_eq_true ce43),
    (of_decide_eq_true ce44),
    (of_decide_eq_true ce45),
    (of_decide_eq_true ce46),
    (of_decide_eq_true ce47),
    (of_decide_eq_true ce48),
    (of_decide_eq_true ce49),
    (of_decide_eq_true ce50),
    (of_decide_eq_true ce51),
    (of_decide_eq_true ce52),
    (of_decide_eq_true ce53),
    (of_decide_eq_true ce54),
    (of_decide_eq_true ce55),
    (of_decide_eq_true ce56),
    (of_decide_eq_true ce57),
    (tab1_ok ce59),
    rfl,
    (tab1_ok ce60),
    rfl,
    (tab1_ok ce61),
    rfl,
    (tab1_ok ce62),
    rfl,
    ac0,
    C0,
    (exis_ok ce64)⟩
  have e := hfa.symm.trans t.m_law
  cases e
  have b := FunD.bindsA (ps := ["_law_script"]) t.F_law fun _ _ _ _ _ _ us hl => match us, hl with | [_], _ => rfl
  exact ⟨t.d_law, ce58, fun s v => b s [v] rfl, fun base _ _ tb => ok_law t tb⟩
end K10
open PySem PySem.W PySem.Calls PyProof.Rows
set_option maxRecDepth 100000 in
set_option maxHeartbeats 0 in
theorem PySem.Challenge.cw_nevertwice_k10_any_value_as_a_golden_num_holds : PySem.Challenge.rw_nevertwice_k10_any_value_as_a_golden_num.Holds := by
  w_on; o_law
  refine HandSHeadRun.head_imp (r := OpenLaw.row PySem.Challenge.rw_nevertwice_k10_any_value_as_a_golden_num) (q := view (OpenLaw.row PySem.Challenge.rw_nevertwice_k10_any_value_as_a_golden_num).prog [0, 76]) (H := K10.hk) (ob := K10.ob) (M := 5620) (loose := K10.nms) (d := HandSHeadRun.topDef (OpenLaw.row PySem.Challenge.rw_nevertwice_k10_any_value_as_a_golden_num).prog 76) (kwd := []) K10.ob_eq
    K10.run (by kernel_rfl) (by kernel_rfl) (by kernel_rfl) (by rfl) (by first | assumption | decide +kernel) (by decide +kernel) ⟨rfl, rfl, rfl, rfl, rfl, by decide +kernel⟩ ?hw ?hc
  case hw => w_witness2
  case hc =>
    refine DL.walk_ofT (l := PySem.Challenge.rw_nevertwice_k10_any_value_as_a_golden_num) (n := 63) (k := 9) (x := "_law_script") rfl (by decide) (by kernel_rfl) ⟨⟨rfl, by decide, by decide⟩, rfl⟩ ?F
    intro w mg fa h Y G hmg0
    obtain ⟨K, KX, c⟩ := Y
    have hmg : mg ("law" : PySem.Str) = some (.ref fa) := by
      have e : (HandSHeadRun.topDef (OpenLaw.row PySem.Challenge.rw_nevertwice_k10_any_value_as_a_golden_num).prog 76).name = ("law" : PySem.Str) := by kernel_rfl
      rw [← e]
      exact hmg0
    obtain ⟨fd, htn, hb, hF⟩ := K10.facts (P := (PySem.Challenge.rw_nevertwice_k10_any_value_as_a_golden_num).prog) (w := w) KX G hmg c.d c.ex
    exact ⟨K, fd, K10.TN.map (fun n => He.cT K (n, none)), DL.spLaw K 5 K10.T_law, KX, DL.cs_ok KX c, hb, fun H a ns hl hT hS => ⟨a, ns, rfl, hS, hl, DL.tabs_start htn hT, K10.math, fun _ => rfl⟩, fun base kb nb tb => hF base kb nb (DL.tbs_of tb)⟩
