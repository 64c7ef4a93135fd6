import PyProof.Rows.All
import Wide.All
import OpenK.AllK
import Wide.FinOn
import Flt.RightSqrt
import HandS.Comp
import HandS.Defaults
import HandS.EndBits
import HandS.EndTab
import HandS.Ends
import HandS.Exc
import HandS.ExcField
import HandS.ExcOwn
import HandS.ForMost
import HandS.Gcd
import HandS.Head0
import HandS.Head1
import HandS.Head2
import HandS.Head3
import HandS.HeadEnd
import HandS.HeadHook1
import HandS.HeadHook2
import HandS.HeadHook4
import HandS.IsInst
import HandS.Lambda
import HandS.More
import HandS.Style
import HandS.Text
import HandS.TryMany
import HandS.TryOnly
import HandS.TupAny
import HandS.TupMul
import HandS.Wide
import HandS.Zip
import KE.KExcInit
import KE.KExcIs
import KE.KIntText
import KE.KMathG
import KE.KTupSum
import PyProof.FitsInt
import PyProof.ReprLen
import PyProof.ReprRoads
import PyProof.StrLawsRepr
import PyProof.StrOps2
import PySem.Challenge.RW_nevertwice_k06_sums_products_and_quotien
set_option Elab.async false
set_option linter.all false
set_option maxRecDepth 100000
/-! Data in place of heaps: a reading over plain data, for programs whose values are data and whose one mutable thing is a deck. -/
namespace DL
open PySem PySem.Spec L2
open PyProof.Rows hiding St

/-- data -/
inductive D where
  | non
  | bl (b : Bool)
  | int (i : Int)
  | str (x : Str)
  | tup (ds : List D)
  | lst (ds : List D)
  | dct (ks : List Key) (ds : List D)
  | deck
  | ty (n : String)

/-- defs of laws that make lambdas -/
def lamDefs : List Str := ["_law_are_values_right", "_law_refusals_right", "_law_is_making_right", "_law_is_rest_right", "_law_is_around_right", "_law_are_parts_right", "_law_is_alone_right", "_law_are_two_right", "_law_near_right", "_law_sure_right", "_law_thing_right", "_law_corner_right", "_law_objects_right", "_law_calls", "_law_star_right", "_law_is_right", "_law_is_row_right", "_law_is_neighbour_right", "_law_is_back_right", "_law_two_right", "_law_one_right", "_law_is_floor_refused", "_law_is_great_right"]
def hasDef (K : PySem.W.Frag) (n : Str) : Bool := match PySem.W.nsIn K mainGlobals n with
  | some (some (.ref _)) => true
  | _ => false
def lamQ (n : Str) : Str := n ++ ".<locals>." ++ "<lambda>"
/-- their tables, the names in them -/
def tabsOf (K : PySem.W.Frag) : List (Addr × Str) := (lamDefs.filter (hasDef K)).map fun n => ((He.cT K (n, none)).2, lamQ n)
/-- where the deck stands: its dict, its list; the tables of code objects -/
structure Zn where
  deck : Option (Addr × Addr)
  tabs : List (Addr × Str)
def InZ (Z : Zn) (p : Addr) : Prop := ∃ a l, Z.deck = some (a, l) ∧ (p = a ∨ p = l)
/-- no table of code objects -/
def Kp (o : HO) : Prop := ∀ ps, o ≠ .tbl ps
theorem kp_tup {vs : List V} : Kp (.tup vs) := fun _ h => by cases h
theorem kp_lst {vs : List V} : Kp (.lst vs) := fun _ h => by cases h
theorem kp_dk {vs : List (Key × V)} : Kp (.dK vs) := fun _ h => by cases h
theorem kp_xd {vs : List (Str × V)} : Kp (.xd vs) := fun _ h => by cases h
def deckKvs (l : Addr) (m k : Int) : List (Key × V) := [(.inr ("left" : Str), .ref l), (.inr ("mixed" : Str), .int m), (.inr ("draws" : Str), .int k)]
def DeckAt (H : Hp) (a l : Addr) : Prop := ∃ (xs : List Int) (m k : Int), H a = some (.dK (deckKvs l m k)) ∧ H l = some (.lst (xs.map V.int)) ∧ xs.length ≤ 63
/-- a store elsewhere leaves the tables as they are -/
theorem tab_upd {H : Hp} {A P : Addr} {o o' : HO} {q : Str} (h : H A = some o) (n1 : Kp o) (n2 : ∀ φ, o ≠ .ext φ) (t : LamX.TabS H P q) : LamX.TabS (upd H A o') P q := by
  obtain ⟨ps, h1, h2, h3⟩ := t
  have e1 : P ≠ A := fun z => by rw [z, h] at h1; cases h1; exact n1 ps rfl
  refine ⟨ps, by rw [upd_ne e1]; exact h1, h2, fun pos cv hc => ?_⟩
  obtain ⟨c, e2, e3⟩ := h3 pos cv hc
  have e4 : c ≠ A := fun z => by
    rw [z, h] at e3
    unfold LamX.CodeO at e3
    cases e3
    exact n2 _ rfl
  exact ⟨c, e2, by rw [upd_ne e4]; exact e3⟩
def DeckOk (Z : Zn) (H : Hp) : Prop := (∀ a l, Z.deck = some (a, l) → DeckAt H a l) ∧ LamX.Tabs Z.tabs H
/-- what may happen to a heap: new things come, the deck changes as a deck -/
structure Ext (Z : Zn) (H H' : Hp) : Prop where
  keep : ∀ p o, ¬ InZ Z p → Kp o → H p = some o → H' p = some o
  deck : DeckOk Z H → DeckOk Z H'
theorem Ext.refl {Z : Zn} {H : Hp} : Ext Z H H := ⟨fun _ _ _ _ h => h, fun h => h⟩
theorem Ext.trans {Z : Zn} {H H1 H2 : Hp} (a : Ext Z H H1) (b : Ext Z H1 H2) : Ext Z H H2 :=
  ⟨fun p o n k h => b.keep p o n k (a.keep p o n k h), fun h => b.deck (a.deck h)⟩

abbrev NK : Hp := fun _ => none
mutual
/-- the value v is the data d; nothing of it stands where N says -/
def Rep (K : PySem.W.Frag) (Z : Zn) (N : Addr → Prop) (H : Hp) : D → V → Prop
  | .non, v => v = .non
  | .bl b, v => v = .bl b
  | .int i, v => v = .int i
  | .str x, v => v = .str x
  | .tup ds, v => ∃ a vs, v = .ref a ∧ ((¬ N a ∧ H a = some (.tup vs)) ∨ SqT K NK a vs) ∧ Reps K Z N H ds vs
  | .lst ds, v => ∃ a vs, v = .ref a ∧ ¬ N a ∧ H a = some (.lst vs) ∧ Reps K Z N H ds vs
  | .dct ks ds, v => ∃ a vs, v = .ref a ∧ ¬ N a ∧ H a = some (.dK (ks.zip vs)) ∧ ks.length = vs.length ∧ Reps K Z N H ds vs
  | .deck, v => ∃ a l, Z.deck = some (a, l) ∧ v = .ref a
  | .ty n, v => v = .ty n
def Reps (K : PySem.W.Frag) (Z : Zn) (N : Addr → Prop) (H : Hp) : List D → List V → Prop
  | [], vs => vs = []
  | d :: ds, vs => ∃ v r, vs = v :: r ∧ Rep K Z N H d v ∧ Reps K Z N H ds r
end
section
variable {K : PySem.W.Frag} {Z : Zn} {N N' : Addr → Prop} {H H' : Hp}
mutual
theorem Rep.mono (hk : ∀ p o, ¬ N p → Kp o → H p = some o → H' p = some o ∧ ¬ N' p) : ∀ (d : D) (v : V), Rep K Z N H d v → Rep K Z N' H' d v
  | .non, _, h => h
  | .bl _, _, h => h
  | .int _, _, h => h
  | .str _, _, h => h
  | .tup ds, v, h => by
    obtain ⟨a, vs, e, r, q⟩ := h
    refine ⟨a, vs, e, ?_, Reps.mono hk ds vs q⟩
    rcases r with ⟨n, r⟩ | r
    · obtain ⟨r', n'⟩ := hk _ _ n kp_tup r
      exact .inl ⟨n', r'⟩
    · exact .inr r
  | .lst ds, v, h => by
    obtain ⟨a, vs, e, n, r, q⟩ := h
    obtain ⟨r', n'⟩ := hk _ _ n kp_lst r
    exact ⟨a, vs, e, n', r', Reps.mono hk ds vs q⟩
  | .dct ks ds, v, h => by
    obtain ⟨a, vs, e, n, r, l, q⟩ := h
    obtain ⟨r', n'⟩ := hk _ _ n kp_dk r
    exact ⟨a, vs, e, n', r', l, Reps.mono hk ds vs q⟩
  | .deck, _, h => h
  | .ty _, _, h => h
theorem Reps.mono (hk : ∀ p o, ¬ N p → Kp o → H p = some o → H' p = some o ∧ ¬ N' p) : ∀ (ds : List D) (vs : List V), Reps K Z N H ds vs → Reps K Z N' H' ds vs
  | [], _, h => h
  | d :: ds, vs, h => by
    obtain ⟨v, r, e, h1, h2⟩ := h
    exact ⟨v, r, e, Rep.mono hk d v h1, Reps.mono hk ds r h2⟩
end
theorem Rep.ext {d : D} {v : V} (e : Ext Z H H') (hz : ∀ p, InZ Z p → N p) (h : Rep K Z N H d v) : Rep K Z N H' d v :=
  Rep.mono (fun p o n k q => ⟨e.keep p o (fun z => n (hz p z)) k q, n⟩) d v h
theorem Reps.ext {ds : List D} {vs : List V} (e : Ext Z H H') (hz : ∀ p, InZ Z p → N p) (h : Reps K Z N H ds vs) : Reps K Z N H' ds vs :=
  Reps.mono (fun p o n k q => ⟨e.keep p o (fun z => n (hz p z)) k q, n⟩) ds vs h
theorem Rep.less {d : D} {v : V} (hn : ∀ p, N' p → N p) (h : Rep K Z N H d v) : Rep K Z N' H d v :=
  Rep.mono (fun p o n _ q => ⟨q, fun z => n (hn p z)⟩) d v h
theorem Reps.less {ds : List D} {vs : List V} (hn : ∀ p, N' p → N p) (h : Reps K Z N H ds vs) : Reps K Z N' H ds vs :=
  Reps.mono (fun p o n _ q => ⟨q, fun z => n (hn p z)⟩) ds vs h
theorem Reps.length : ∀ {ds : List D} {vs : List V}, Reps K Z N H ds vs → ds.length = vs.length
  | [], _, h => by cases h; rfl
  | d :: ds, _, ⟨v, r, e, _, q⟩ => by subst e; simp [Reps.length q]
theorem Reps.get : ∀ {ds : List D} {vs : List V} {i : Nat} {d : D}, Reps K Z N H ds vs → ds[i]? = some d → ∃ v, vs[i]? = some v ∧ Rep K Z N H d v
  | [], _, _, _, _, e => by simp at e
  | x :: ds, _, 0, d, ⟨v, r, e, h, _⟩, g => by subst e; simp at g; subst g; exact ⟨v, rfl, h⟩
  | x :: ds, _, i + 1, d, ⟨v, r, e, _, q⟩, g => by
    subst e
    obtain ⟨w, h1, h2⟩ := Reps.get (i := i) q (by simpa using g)
    exact ⟨w, by simpa using h1, h2⟩
theorem Reps.getV : ∀ {ds : List D} {vs : List V} {i : Nat} {v : V}, Reps K Z N H ds vs → vs[i]? = some v → ∃ d, ds[i]? = some d ∧ Rep K Z N H d v
  | [], _, _, _, h, e => by cases h; simp at e
  | x :: ds, _, 0, v, ⟨w, r, e, h, _⟩, g => by subst e; simp at g; subst g; exact ⟨x, rfl, h⟩
  | x :: ds, _, i + 1, v, ⟨w, r, e, _, q⟩, g => by
    subst e
    obtain ⟨d, h1, h2⟩ := Reps.getV (i := i) q (by simpa using g)
    exact ⟨d, by simpa using h1, h2⟩
theorem Reps.append : ∀ {ds es : List D} {vs ws : List V}, Reps K Z N H ds vs → Reps K Z N H es ws → Reps K Z N H (ds ++ es) (vs ++ ws)
  | [], _, _, _, h, q => by cases h; exact q
  | d :: ds, _, _, _, ⟨v, r, e, h1, h2⟩, q => by subst e; exact ⟨v, _, rfl, h1, Reps.append h2 q⟩
theorem Reps.snoc {ds : List D} {d : D} {vs : List V} {v : V} (h : Reps K Z N H ds vs) (q : Rep K Z N H d v) : Reps K Z N H (ds ++ [d]) (vs ++ [v]) :=
  h.append ⟨v, [], rfl, q, rfl⟩
theorem Reps.take : ∀ {ds : List D} {vs : List V} (n : Nat), Reps K Z N H ds vs → Reps K Z N H (ds.take n) (vs.take n)
  | _, _, 0, _ => by simp [Reps]
  | [], _, n + 1, h => by cases h; simp [Reps]
  | d :: ds, _, n + 1, ⟨v, r, e, h1, h2⟩ => by subst e; exact ⟨v, _, rfl, h1, Reps.take n h2⟩
theorem Reps.drop : ∀ {ds : List D} {vs : List V} (n : Nat), Reps K Z N H ds vs → Reps K Z N H (ds.drop n) (vs.drop n)
  | _, _, 0, h => h
  | [], _, n + 1, h => by cases h; simp [Reps]
  | d :: ds, _, n + 1, ⟨v, r, e, h1, h2⟩ => by subst e; exact Reps.drop n h2
theorem Reps.ints : ∀ {ns : List Int} {vs : List V}, Reps K Z N H (ns.map D.int) vs → vs = ns.map V.int
  | [], _, h => h
  | n :: ns, _, ⟨v, r, e, h1, h2⟩ => by subst e; rw [show v = V.int n from h1, Reps.ints h2]; rfl
theorem Reps.bls : ∀ {ns : List Bool} {vs : List V}, Reps K Z N H (ns.map D.bl) vs → vs = ns.map V.bl
  | [], _, h => h
  | n :: ns, _, ⟨v, r, e, h1, h2⟩ => by subst e; rw [show v = V.bl n from h1, Reps.bls h2]; rfl
end

/-! ### the state of a def's body -/
/-- an exception as data: its class, what it bears -/
structure DX where
  cls : Str
  fs : List (Str × D)
/-- a slot: unassigned, data, a list of the def's own that it may change -/
inductive Slot where
  | un
  | d (x : D)
  | own (xs : List D)
  | raw (v : V)
abbrev SE := List Slot
structure FP where
  K : PySem.W.Frag
  Z : Zn
  B : Addr → Prop
  H0 : Hp
  ex : DX → SE → Prop
  N1 : Addr → Prop
  H1 : Hp
def SlotOk (F : FP) (N : Addr → Prop) (H : Hp) (o : Option (Option V)) : Slot → Prop
  | .un => True
  | .d x => ∃ v, o = some (some v) ∧ Rep F.K F.Z N H x v
  | .own xs => ∃ p vs, o = some (some (.ref p)) ∧ N p ∧ ¬ F.B p ∧ H p = some (.lst vs) ∧ Reps F.K F.Z N H xs vs
  | .raw v => o = some (some v)
/-- what was frozen is so still -/
def Evo (N : Addr → Prop) (H : Hp) (N' : Addr → Prop) (H' : Hp) : Prop := ∀ p o, ¬ N p → Kp o → H p = some o → H' p = some o ∧ ¬ N' p
theorem Evo.refl {N : Addr → Prop} {H : Hp} : Evo N H N H := fun _ _ n _ h => ⟨h, n⟩
theorem Evo.trans {N N1 N2 : Addr → Prop} {H H1 H2 : Hp} (a : Evo N H N1 H1) (b : Evo N1 H1 N2 H2) : Evo N H N2 H2 := fun p o n k h =>
  let ⟨h1, n1⟩ := a p o n k h
  b p o n1 k h1
structure NOk (F : FP) (N : Addr → Prop) (H : Hp) : Prop where
  deck : DeckOk F.Z H
  ext : Ext F.Z F.H0 H
  sub : ∀ p, F.B p → N p
  zin : ∀ p, InZ F.Z p → F.B p
  all : ∀ p, N p → ∃ o, H p = some o ∧ Kp o
  new : ∀ p, N p → ¬ F.B p → ∀ o, Kp o → F.H0 p = some o → False
  gr : Evo F.N1 F.H1 N H
  tb : F.Z.tabs = tabsOf F.K
structure FOk (F : FP) (N : Addr → Prop) (σ : St) (H : Hp) (env : SE) : Prop where
  n : NOk F N H
  len : σ.length = env.length
  slot : ∀ (i : Nat) s, env[i]? = some s → SlotOk F N H σ[i]? s
  apart : ∀ (i j : Nat) p xs ys, i ≠ j → env[i]? = some (.own xs) → env[j]? = some (.own ys) → σ[i]? = some (some (.ref p)) → σ[j]? = some (some (.ref p)) → False
section
variable {F : FP} {N : Addr → Prop} {σ : St} {H H' : Hp} {env : SE}
theorem NOk.z (n : NOk F N H) (p : Addr) (h : InZ F.Z p) : N p := n.sub p (n.zin p h)
theorem NOk.ext' (n : NOk F N H) (e : Ext F.Z H H') : NOk F N H' where
  deck := e.deck n.deck
  ext := n.ext.trans e
  sub := n.sub
  zin := n.zin
  all := fun p h => by
    by_cases z : InZ F.Z p
    · obtain ⟨a, l, e1, e2⟩ := z
      obtain ⟨xs, m, k, h1, h2, _⟩ := (e.deck n.deck).1 a l e1
      rcases e2 with e2 | e2
      · rw [e2]; exact ⟨_, h1, kp_dk⟩
      · rw [e2]; exact ⟨_, h2, kp_lst⟩
    · obtain ⟨o, q, k⟩ := n.all p h
      exact ⟨o, e.keep p o z k q, k⟩
  new := n.new
  gr := n.gr.trans fun p o np k h => ⟨e.keep p o (fun z => np (n.z p z)) k h, np⟩
  tb := n.tb
theorem SlotOk.ext (n : NOk F N H) (e : Ext F.Z H H') {o : Option (Option V)} : ∀ {s : Slot}, SlotOk F N H o s → SlotOk F N H' o s
  | .un, _ => trivial
  | .d x, ⟨v, h1, h2⟩ => ⟨v, h1, h2.ext e n.z⟩
  | .own xs, ⟨p, vs, h1, h2, h3, h4, h5⟩ => ⟨p, vs, h1, h2, h3, e.keep p _ (fun z => h3 (n.zin p z)) kp_lst h4, h5.ext e n.z⟩
  | .raw v, h => h
theorem FOk.ext' (f : FOk F N σ H env) (e : Ext F.Z H H') : FOk F N σ H' env :=
  ⟨f.n.ext' e, f.len, fun i s q => (f.slot i s q).ext f.n e, f.apart⟩
/-- a new thing -/
theorem NOk.fresh (n : NOk F N H) {p : Addr} (h : H p = none) : ¬ N p := fun q => by
  obtain ⟨o, e, _⟩ := n.all p q
  rw [h] at e; cases e
theorem NOk.new0 (n : NOk F N H) {p : Addr} (h : H p = none) : ∀ o, Kp o → F.H0 p = some o → False := fun o k e => by
  rw [n.ext.keep p o (fun z => n.fresh h (n.z p z)) k e] at h
  cases h
theorem deck_mono {Z : Zn} {H H' : Hp} (k : ∀ q u, H q = some u → H' q = some u) (dk : DeckOk Z H) : DeckOk Z H' :=
  ⟨fun a l e => let ⟨xs, m, c, h1, h2, h3⟩ := dk.1 a l e; ⟨xs, m, c, k _ _ h1, k _ _ h2, h3⟩, dk.2.ext k⟩
theorem Ext.of_mono {Z : Zn} {H H' : Hp} (k : ∀ q u, H q = some u → H' q = some u) : Ext Z H H' := ⟨fun q u _ _ e => k q u e, deck_mono k⟩
theorem NOk.lay (n : NOk F N H) {p : Addr} {o : HO} (h : H p = none) : Ext F.Z H (upd H p o) :=
  .of_mono fun q u e => by rw [upd_ne (ne_of_none e h)]; exact e
end

/-! ### readings over data -/
abbrev XW := DX → SE → Prop
abbrev TDE := XW → SE → (D → Prop) → Prop
abbrev TDT := XW → SE → (Bool → Prop) → Prop
abbrev TDA := XW → SE → (List D → Prop) → Prop
structure DEnds where
  nx : SE → Prop
  rt : D → Prop
  bk : SE → Prop := fun _ => False
  ct : SE → Prop := fun _ => False
abbrev TDS := XW → DEnds → SE → Prop
def tD (F : FP) (T : TDE) : TE := fun σ H Q => ∃ N env Qd, FOk F N σ H env ∧ T F.ex env Qd ∧ ∀ v H' d, Ext F.Z H H' → Rep F.K F.Z N H' d v → Qd d → Q v H'
def tDT (F : FP) (T : TDT) : TT := fun σ H Q => ∃ N env Qd, FOk F N σ H env ∧ T F.ex env Qd ∧ ∀ b H', Ext F.Z H H' → Qd b → Q b H'
def tDA (F : FP) (T : TDA) : TA := fun σ H Q => ∃ N env Qd, FOk F N σ H env ∧ T F.ex env Qd ∧ ∀ vs H' ds, Ext F.Z H H' → Reps F.K F.Z N H' ds vs → Qd ds → Q vs H'
theorem Evo.of {F : FP} {N : Addr → Prop} {H H' : Hp} (n : NOk F N H) (e : Ext F.Z H H') : Evo N H N H' := fun p o np k h => ⟨e.keep p o (fun z => np (n.z p z)) k h, np⟩
/-- what a body's ends mean below -/
structure EndsOk (F : FP) (N0 : Addr → Prop) (H0 : Hp) (Dd : DEnds) (De : Ends) : Prop where
  nx : ∀ N σ H env, FOk F N σ H env → Evo N0 H0 N H → Dd.nx env → De.nx σ H
  rt : ∀ v H d, Ext F.Z F.H0 H → Rep F.K F.Z F.B H d v → Dd.rt d → De.rt v H
  bk : ∀ N σ H env, FOk F N σ H env → Evo N0 H0 N H → Dd.bk env → De.bk σ H
  ct : ∀ N σ H env, FOk F N σ H env → Evo N0 H0 N H → Dd.ct env → De.ct σ H
def sD (F : FP) (T : TDS) : TS := fun De σ H => ∃ N env Dd, FOk F N σ H env ∧ T F.ex Dd env ∧ EndsOk F N H Dd De

section
variable {X : Cx} {e : Expr} {es : List Expr} {st : Stmt} {sts : List Stmt}
theorem PE.imp {t t' : TE} (h : PE X e t) (hi : ∀ σ H Q, t' σ H Q → t σ H Q) : PE X e t' := ⟨fun pins s σ H Q I hw => h.run pins s σ H Q I (hi _ _ _ hw)⟩
theorem PT.imp {t t' : TT} (h : PT X e t) (hi : ∀ σ H Q, t' σ H Q → t σ H Q) : PT X e t' := ⟨fun pins s σ H Q I hw => h.run pins s σ H Q I (hi _ _ _ hw)⟩
theorem PW.imp {t t' : TT} (h : PW X e t) (hi : ∀ σ H Q, t' σ H Q → t σ H Q) : PW X e t' := ⟨fun wh pins s σ H Q I hw => h.run wh pins s σ H Q I (hi _ _ _ hw)⟩
theorem PA.imp {t t' : TA} (h : PA X es t) (hi : ∀ σ H Q, t' σ H Q → t σ H Q) : PA X es t' := ⟨fun pos pins s σ H Q I hw => h.run pos pins s σ H Q I (hi _ _ _ hw)⟩
theorem PS.imp {t t' : TS} (h : PS X st t) (hi : ∀ De σ H, t' De σ H → t De σ H) : PS X st t' := ⟨fun pins s σ H De I hw => h.run pins s σ H De I (hi _ _ _ hw)⟩
theorem PSs.imp {t t' : TS} (h : PSs X sts t) (hi : ∀ De σ H, t' De σ H → t De σ H) : PSs X sts t' := ⟨fun pins s σ H De I hw => h.run pins s σ H De I (hi _ _ _ hw)⟩
end
end DL
set_option Elab.async false
set_option linter.all false
set_option maxRecDepth 100000
namespace DL
open PySem PySem.Spec L2
open PyProof.Rows hiding St

section
variable {K : PySem.W.Frag} {Z : Zn} {N : Addr → Prop} {H : Hp}
theorem rep_int {i : Int} : Rep K Z N H (.int i) (.int i) := rfl
theorem rep_bl {i : Bool} : Rep K Z N H (.bl i) (.bl i) := rfl
theorem rep_str {i : Str} : Rep K Z N H (.str i) (.str i) := rfl
theorem rep_non : Rep K Z N H .non .non := rfl
end
section
variable {X : Cx} {F : FP} {e a b c : Expr} {es : List Expr} {pos : Pos} {Ta Tb Tc : TDE} {Tas : TDA}

/-! ### names, constants -/
def dVar (i : Nat) : TDE := fun _ env Q => match env[i]? with
  | some (.d x) => Q x
  | _ => False
theorem d_var {i : Nat} (h : PE X e (tVar i)) : PE X e (tD F (dVar i)) := PE.imp h (by
  rintro σ H Q ⟨N, env, Qd, f, hT, k⟩
  unfold dVar at hT
  split at hT
  · rename_i x hx
    obtain ⟨v, e1, r⟩ := f.slot i _ hx
    exact ⟨v, e1, k v H x Ext.refl r hT⟩
  · exact hT.elim)
def dC (d : D) : TDE := fun _ _ Q => Q d
theorem d_const {v : V} {d : D} (h : PE X e (tC v)) (hr : ∀ N H, Rep F.K F.Z N H d v) : PE X e (tD F (dC d)) := PE.imp h (by
  rintro σ H Q ⟨N, env, Qd, f, hT, k⟩
  exact k v H d Ext.refl (hr N H) hT)
theorem d_int {i : Int} {j} : PE X (.Constant (.int i) j pos) (tD F (dC (.int i))) := d_const pe_int fun _ _ => rfl
theorem d_bl {i : Bool} {j} : PE X (.Constant (.bool i) j pos) (tD F (dC (.bl i))) := d_const pe_bl fun _ _ => rfl
theorem d_non {j} : PE X (.Constant .none j pos) (tD F (dC .non)) := d_const pe_non fun _ _ => rfl
theorem d_str {i : Str} {j} : PE X (.Constant (.str i) j pos) (tD F (dC (.str i))) := d_const pe_str fun _ _ => rfl

/-! ### operators -/
abbrev G2 := D → D → (D → Prop) → Prop
structure OpD (F : FP) (r : R2) (g : G2) : Prop where
  ok : ∀ N H x y dx dy Qd (Q : VK), NOk F N H → Rep F.K F.Z N H dx x → Rep F.K F.Z N H dy y → g dx dy Qd → (∀ v H' d, Ext F.Z H H' → Rep F.K F.Z N H' d v → Qd d → Q v H') → r x y H Q
def dBin (g : G2) (Ta Tb : TDE) : TDE := fun ξ env Q => Ta ξ env fun x => Tb ξ env fun y => g x y Q
theorem tOp_imp {r : R2} {g : G2} (hg : OpD F r g) : ∀ σ H Q, tD F (dBin g Ta Tb) σ H Q → tOp r (tD F Ta) (tD F Tb) σ H Q := by
  rintro σ H Q ⟨N, env, Qd, f, hT, k⟩
  refine ⟨N, env, _, f, hT, fun x H1 dx e1 rx q1 => ?_⟩
  refine ⟨N, env, _, f.ext' e1, q1, fun y H2 dy e2 ry q2 => ?_⟩
  exact hg.ok N H2 x y dx dy _ _ ((f.ext' e1).ext' e2).n (rx.ext e2 f.n.z) ry q2 fun v H3 d e3 r3 q3 => k v H3 d ((e1.trans e2).trans e3) r3 q3
theorem d_op {op : Operator} {r : R2} {g : G2} (ho : OpR X (binaryOp op) r) (hg : OpD F r g) (ha : PE X a (tD F Ta)) (hb : PE X b (tD F Tb)) : PE X (.BinOp a op b pos) (tD F (dBin g Ta Tb)) :=
  PE.imp (pe_op ho ha hb) (tOp_imp hg)
theorem d_cmp {op : CmpOp} {r : R2} {g : G2} (ho : OpR X (compareOp op) r) (hg : OpD F r g) (ha : PE X a (tD F Ta)) (hb : PE X b (tD F Tb)) (hm : behindInMarks op b = false) : PE X (.Compare a [op] [b] pos) (tD F (dBin g Ta Tb)) :=
  PE.imp (pe_cmpR ho ha hb hm) (tOp_imp hg)
/-- an expression that tells True or False, as a test -/
def dTest (T : TDE) : TDT := fun ξ env Q => T ξ env fun d => match d with
  | .bl b => Q b
  | _ => False
theorem bl_of {d : D} {Q : Bool → Prop} (h : match d with | .bl b => Q b | _ => False) : ∃ b, d = .bl b ∧ Q b := by
  cases d <;> first | exact ⟨_, rfl, h⟩ | exact h.elim
theorem tTest_imp {T : TDE} {t : TE} (hi : ∀ σ H Q, tD F T σ H Q → t σ H Q) : ∀ σ H Q, tDT F (dTest T) σ H Q → t σ H fun x H' => ∃ k, x = .bl k ∧ Q k H' := by
  rintro σ H Q ⟨N, env, Qd, f, hT, k⟩
  refine hi σ H _ ⟨N, env, _, f, hT, fun v H' d e r q => ?_⟩
  obtain ⟨b, rfl, q⟩ := bl_of q
  exact ⟨b, r, k b H' e q⟩
theorem dt_cmp {op : CmpOp} {r : R2} {g : G2} (ho : OpR X (compareOp op) r) (hg : OpD F r g) (ha : PE X a (tD F Ta)) (hb : PE X b (tD F Tb)) (hm : behindInMarks op b = false) : PT X (.Compare a [op] [b] pos) (tDT F (dTest (dBin g Ta Tb))) :=
  PT.imp (pt_cmpR ho ha hb hm) (tTest_imp (tOp_imp hg))
theorem dt_val (h : PE X e (tD F Ta)) (he : ∀ whole, isTrue e X.env whole = (do let v ← whole; standAt e.pos; holding [v] (truthy v)) := by intro _; rfl) : PT X e (tDT F (dTest Ta)) :=
  PT.imp (pt_val h he) (tTest_imp fun _ _ _ h => h)
/-- an int, a tuple, .. as a test -/
def truD : D → Option Bool
  | .non => some false
  | .bl b => some b
  | .int i => some (i != 0)
  | .tup ds => some (!ds.isEmpty)
  | .lst ds => some (!ds.isEmpty)
  | _ => none
def dTruth (T : TDE) : TDT := fun ξ env Q => T ξ env fun d => match truD d with
  | some b => Q b
  | none => False

/-! ### and, or, not; if -/
def dtAnd (t u : TDT) : TDT := fun ξ env Q => t ξ env fun c => if c = true then u ξ env Q else Q false
def dtOr (t u : TDT) : TDT := fun ξ env Q => t ξ env fun c => if c = true then Q true else u ξ env Q
def dtNot (t : TDT) : TDT := fun ξ env Q => t ξ env fun c => Q (!c)
variable {tA tB' : TDT} {rest : List Expr}
theorem dw_and1 (ha : PT X a (tDT F tA)) : PW X (.BoolOp .And [a] pos) (tDT F tA) := pw_and1 ha
theorem dw_or1 (ha : PT X a (tDT F tA)) : PW X (.BoolOp .Or [a] pos) (tDT F tA) := pw_or1 ha
theorem dw_and (ha : PT X a (tDT F tA)) (hb : PW X (.BoolOp .And (b :: rest) pos) (tDT F tB')) : PW X (.BoolOp .And (a :: b :: rest) pos) (tDT F (dtAnd tA tB')) := PW.imp (pw_and ha hb) (by
  rintro σ H Q ⟨N, env, Qd, f, hT, k⟩
  refine ⟨N, env, _, f, hT, fun c H1 e1 q1 => ?_⟩
  by_cases hc : c = true
  · rw [if_pos hc] at q1 ⊢
    exact ⟨N, env, _, f.ext' e1, q1, fun b H2 e2 q2 => k b H2 (e1.trans e2) q2⟩
  · rw [if_neg hc] at q1 ⊢
    exact k _ _ e1 q1)
theorem dw_or (ha : PT X a (tDT F tA)) (hb : PW X (.BoolOp .Or (b :: rest) pos) (tDT F tB')) : PW X (.BoolOp .Or (a :: b :: rest) pos) (tDT F (dtOr tA tB')) := PW.imp (pw_or ha hb) (by
  rintro σ H Q ⟨N, env, Qd, f, hT, k⟩
  refine ⟨N, env, _, f, hT, fun c H1 e1 q1 => ?_⟩
  by_cases hc : c = true
  · rw [if_pos hc] at q1 ⊢
    exact k _ _ e1 q1
  · rw [if_neg hc] at q1 ⊢
    exact ⟨N, env, _, f.ext' e1, q1, fun b H2 e2 q2 => k b H2 (e1.trans e2) q2⟩)
theorem dt_not (ha : PT X a (tDT F tA)) : PT X (.UnaryOp .Not a pos) (tDT F (dtNot tA)) := PT.imp (pt_not ha) (by
  rintro σ H Q ⟨N, env, Qd, f, hT, k⟩
  exact ⟨N, env, _, f, hT, fun c H1 e1 q1 => k _ H1 e1 q1⟩)
def dAnd (Ta Tb : TDE) : TDE := fun ξ env Q => dTest Ta ξ env fun c => if c = true then Tb ξ env Q else Q (.bl false)
def dOr (Ta Tb : TDE) : TDE := fun ξ env Q => dTest Ta ξ env fun c => if c = true then Q (.bl true) else Tb ξ env Q
def dNot (Ta : TDE) : TDE := fun ξ env Q => dTest Ta ξ env fun c => Q (.bl (!c))
theorem d_one {op} (h : PE X a (tD F Ta)) : PE X (.BoolOp op [a] pos) (tD F Ta) := pe_one h
theorem d_and (ha : PE X a (tD F Ta)) (hb : PE X (.BoolOp .And (b :: rest) pos) (tD F Tb)) : PE X (.BoolOp .And (a :: b :: rest) pos) (tD F (dAnd Ta Tb)) := PE.imp (pe_and ha hb) (by
  rintro σ H Q ⟨N, env, Qd, f, hT, k⟩
  refine ⟨N, env, _, f, hT, fun x H1 dx e1 r1 q1 => ?_⟩
  obtain ⟨c, rfl, q9⟩ := bl_of q1
  refine ⟨c, r1, ?_⟩
  by_cases hc : c = true
  · rw [if_pos hc] at q9 ⊢
    exact ⟨N, env, _, f.ext' e1, q9, fun v H2 d e2 r2 q2 => k v H2 d (e1.trans e2) r2 q2⟩
  · rw [if_neg hc] at q9 ⊢
    exact k _ _ _ e1 rep_bl q9)
theorem d_or (ha : PE X a (tD F Ta)) (hb : PE X (.BoolOp .Or (b :: rest) pos) (tD F Tb)) : PE X (.BoolOp .Or (a :: b :: rest) pos) (tD F (dOr Ta Tb)) := PE.imp (pe_or ha hb) (by
  rintro σ H Q ⟨N, env, Qd, f, hT, k⟩
  refine ⟨N, env, _, f, hT, fun x H1 dx e1 r1 q1 => ?_⟩
  obtain ⟨c, rfl, q9⟩ := bl_of q1
  refine ⟨c, r1, ?_⟩
  by_cases hc : c = true
  · rw [if_pos hc] at q9 ⊢
    exact k _ _ _ e1 rep_bl q9
  · rw [if_neg hc] at q9 ⊢
    exact ⟨N, env, _, f.ext' e1, q9, fun v H2 d e2 r2 q2 => k v H2 d (e1.trans e2) r2 q2⟩)
theorem d_not (ha : PE X a (tD F Ta)) : PE X (.UnaryOp .Not a pos) (tD F (dNot Ta)) := PE.imp (pe_not ha) (by
  rintro σ H Q ⟨N, env, Qd, f, hT, k⟩
  refine ⟨N, env, _, f, hT, fun x H1 dx e1 r1 q1 => ?_⟩
  obtain ⟨c, rfl, q9⟩ := bl_of q1
  exact ⟨c, r1, k _ _ _ e1 rep_bl q9⟩)
def dIf (t : TDT) (Ta Tb : TDE) : TDE := fun ξ env Q => t ξ env fun c => if c = true then Ta ξ env Q else Tb ξ env Q
theorem d_if (hc : PT X c (tDT F tA)) (ha : PE X a (tD F Ta)) (hb : PE X b (tD F Tb)) : PE X (.IfExp c a b pos) (tD F (dIf tA Ta Tb)) := PE.imp (pe_ifExp hc ha hb) (by
  rintro σ H Q ⟨N, env, Qd, f, hT, k⟩
  refine ⟨N, env, _, f, hT, fun c H1 e1 q1 => ?_⟩
  by_cases hc : c = true
  · rw [if_pos hc] at q1 ⊢
    exact ⟨N, env, _, f.ext' e1, q1, fun v H2 d e2 r2 q2 => k v H2 d (e1.trans e2) r2 q2⟩
  · rw [if_neg hc] at q1 ⊢
    exact ⟨N, env, _, f.ext' e1, q1, fun v H2 d e2 r2 q2 => k v H2 d (e1.trans e2) r2 q2⟩)

/-! ### unary -/
abbrev G1 := D → (D → Prop) → Prop
def dUn (g : G1) (Ta : TDE) : TDE := fun ξ env Q => Ta ξ env fun x => g x Q
def gNeg : G1 := fun x Q => match x with
  | .int i => Q (.int (-i))
  | _ => False
theorem d_neg (ha : PE X a (tD F Ta)) : PE X (.UnaryOp .USub a pos) (tD F (dUn gNeg Ta)) := PE.imp (pe_un un_neg ha) (by
  rintro σ H Q ⟨N, env, Qd, f, hT, k⟩
  refine ⟨N, env, _, f, hT, fun x H1 dx e1 r1 q1 => ?_⟩
  cases dx <;> first | exact q1.elim | exact ⟨_, r1, k _ _ _ e1 rep_int q1⟩)

/-! ### the operators of ints -/
def gI (C : Int → Int → Prop) (g : Int → Int → D) : G2 := fun x y Q => match x, y with
  | .int i, .int j => C i j ∧ Q (g i j)
  | _, _ => False
def gI0 (g : Int → Int → D) : G2 := fun x y Q => match x, y with
  | .int i, .int j => Q (g i j)
  | _, _ => False
theorem gI_of {C : Int → Int → Prop} {g : Int → Int → D} {x y : D} {Q : D → Prop} (h : gI C g x y Q) : ∃ i j, x = .int i ∧ y = .int j ∧ C i j ∧ Q (g i j) := by
  unfold gI at h
  split at h
  · exact ⟨_, _, rfl, rfl, h⟩
  · exact h.elim
theorem gI0_of {g : Int → Int → D} {x y : D} {Q : D → Prop} (h : gI0 g x y Q) : ∃ i j, x = .int i ∧ y = .int j ∧ Q (g i j) := by
  unfold gI0 at h
  split at h
  · exact ⟨_, _, rfl, rfl, h⟩
  · exact h.elim
theorem opd_I {C : Int → Int → Prop} {g : Int → Int → D} {gv : Int → Int → V} (hg : ∀ i j N H, Rep F.K F.Z N H (g i j) (gv i j)) : OpD F (rI C gv) (gI C g) := ⟨by
  intro N H x y dx dy Qd Q n rx ry h k
  obtain ⟨i, j, rfl, rfl, c, q⟩ := gI_of h
  exact ⟨i, j, rx, ry, c, k _ _ _ Ext.refl (hg i j N H) q⟩⟩
theorem opd_I0 {g : Int → Int → D} {gv : Int → Int → V} (hg : ∀ i j N H, Rep F.K F.Z N H (g i j) (gv i j)) : OpD F (rI0 gv) (gI0 g) := ⟨by
  intro N H x y dx dy Qd Q n rx ry h k
  obtain ⟨i, j, rfl, rfl, q⟩ := gI0_of h
  exact ⟨i, j, rx, ry, k _ _ _ Ext.refl (hg i j N H) q⟩⟩
abbrev gAdd : G2 := gI0 fun i j => .int (i + j)
abbrev gSub : G2 := gI0 fun i j => .int (i - j)
abbrev gMul : G2 := gI CMulW fun i j => .int (i * j)
abbrev gDiv : G2 := gI CDivW fun i j => .int (i / j)
abbrev gMod : G2 := gI (fun _ j => 0 < j) fun i j => .int (i % j)
abbrev gPow : G2 := gI CPow fun i j => .int (i ^ j.toNat)
abbrev gLt : G2 := gI0 fun i j => .bl (decide (i < j))
abbrev gLe : G2 := gI0 fun i j => .bl (decide (i ≤ j))
abbrev gGt : G2 := gI0 fun i j => .bl (decide (j < i))
abbrev gGe : G2 := gI0 fun i j => .bl (decide (j ≤ i))
theorem d_add (ha : PE X a (tD F Ta)) (hb : PE X b (tD F Tb)) : PE X (.BinOp a .Add b pos) (tD F (dBin gAdd Ta Tb)) := d_op op_add (opd_I0 fun _ _ _ _ => rfl) ha hb
theorem d_sub (ha : PE X a (tD F Ta)) (hb : PE X b (tD F Tb)) : PE X (.BinOp a .Sub b pos) (tD F (dBin gSub Ta Tb)) := d_op op_sub (opd_I0 fun _ _ _ _ => rfl) ha hb
theorem d_mul (ha : PE X a (tD F Ta)) (hb : PE X b (tD F Tb)) : PE X (.BinOp a .Mult b pos) (tD F (dBin gMul Ta Tb)) := d_op op_mulW (opd_I fun _ _ _ _ => rfl) ha hb
theorem d_div (ha : PE X a (tD F Ta)) (hb : PE X b (tD F Tb)) : PE X (.BinOp a .FloorDiv b pos) (tD F (dBin gDiv Ta Tb)) := d_op op_fdivW (opd_I fun _ _ _ _ => rfl) ha hb
theorem d_mod (ha : PE X a (tD F Ta)) (hb : PE X b (tD F Tb)) : PE X (.BinOp a .Mod b pos) (tD F (dBin gMod Ta Tb)) := d_op op_mod (opd_I fun _ _ _ _ => rfl) ha hb
theorem d_pow (ha : PE X a (tD F Ta)) (hb : PE X b (tD F Tb)) : PE X (.BinOp a .Pow b pos) (tD F (dBin gPow Ta Tb)) := d_op op_pow (opd_I fun _ _ _ _ => rfl) ha hb
theorem d_lt (ha : PE X a (tD F Ta)) (hb : PE X b (tD F Tb)) : PE X (.Compare a [.Lt] [b] pos) (tD F (dBin gLt Ta Tb)) := d_cmp op_lt (opd_I0 fun _ _ _ _ => rfl) ha hb (nomark _)
theorem d_le (ha : PE X a (tD F Ta)) (hb : PE X b (tD F Tb)) : PE X (.Compare a [.LtE] [b] pos) (tD F (dBin gLe Ta Tb)) := d_cmp op_le (opd_I0 fun _ _ _ _ => rfl) ha hb (nomark _)
theorem d_gt (ha : PE X a (tD F Ta)) (hb : PE X b (tD F Tb)) : PE X (.Compare a [.Gt] [b] pos) (tD F (dBin gGt Ta Tb)) := d_cmp op_gt (opd_I0 fun _ _ _ _ => rfl) ha hb (nomark _)
theorem d_ge (ha : PE X a (tD F Ta)) (hb : PE X b (tD F Tb)) : PE X (.Compare a [.GtE] [b] pos) (tD F (dBin gGe Ta Tb)) := d_cmp op_ge (opd_I0 fun _ _ _ _ => rfl) ha hb (nomark _)
theorem dt_lt (ha : PE X a (tD F Ta)) (hb : PE X b (tD F Tb)) : PT X (.Compare a [.Lt] [b] pos) (tDT F (dTest (dBin gLt Ta Tb))) := dt_cmp op_lt (opd_I0 fun _ _ _ _ => rfl) ha hb (nomark _)
theorem dt_le (ha : PE X a (tD F Ta)) (hb : PE X b (tD F Tb)) : PT X (.Compare a [.LtE] [b] pos) (tDT F (dTest (dBin gLe Ta Tb))) := dt_cmp op_le (opd_I0 fun _ _ _ _ => rfl) ha hb (nomark _)
theorem dt_gt (ha : PE X a (tD F Ta)) (hb : PE X b (tD F Tb)) : PT X (.Compare a [.Gt] [b] pos) (tDT F (dTest (dBin gGt Ta Tb))) := dt_cmp op_gt (opd_I0 fun _ _ _ _ => rfl) ha hb (nomark _)
theorem dt_ge (ha : PE X a (tD F Ta)) (hb : PE X b (tD F Tb)) : PT X (.Compare a [.GtE] [b] pos) (tDT F (dTest (dBin gGe Ta Tb))) := dt_cmp op_ge (opd_I0 fun _ _ _ _ => rfl) ha hb (nomark _)

/-! ### == -/
mutual
/-- the library's data -/
def toP : D → PyData
  | .non => .none
  | .bl b => .bool b
  | .int i => .int i
  | .str x => .str x
  | .tup ds => .tuple (toPs ds)
  | .lst ds => .list (toPs ds)
  | .dct ks ds => .dict (toPk ks ds)
  | .deck => .none
  | .ty _ => .none
def toPs : List D → List PyData
  | [] => []
  | d :: ds => toP d :: toPs ds
def toPk : List Key → List D → List (PyData × PyData)
  | k :: ks, d :: ds => ((match k with | .inl i => PyData.int i | .inr x => PyData.str x), toP d) :: toPk ks ds
  | _, _ => []
end
mutual
def plain : D → Bool
  | .tup ds => plains ds
  | .lst ds => plains ds
  | .dct _ _ => false
  | .deck => false
  | .ty _ => false
  | _ => true
def plains : List D → Bool
  | [] => true
  | d :: ds => plain d && plains ds
end
section
variable {K : PySem.W.Frag} {Z : Zn} {N : Addr → Prop} {H : Hp}
theorem sqt_of {a : Addr} {vs : List V} (h : (¬ N a ∧ H a = some (.tup vs)) ∨ SqT K NK a vs) : SqT K H a vs := by
  rcases h with ⟨_, h⟩ | h
  · exact .inl (.inl h)
  · rcases h with (h | ⟨o, h⟩) | h
    · cases h
    · cases h
    · exact .inr h
mutual
theorem Rep.dp : ∀ (d : D) (v : V), plain d = true → Rep K Z N H d v → Dp K H v (toP d)
  | .non, _, _, h => by rw [show _ = V.non from h]; exact .non
  | .bl b, _, _, h => by rw [show _ = V.bl b from h]; exact .bl b
  | .int i, _, _, h => by rw [show _ = V.int i from h]; exact .int i
  | .str x, _, _, h => by rw [show _ = V.str x from h]; exact .str x
  | .tup ds, _, p, h => by
    obtain ⟨a, vs, rfl, r, q⟩ := h
    exact .tup (sqt_of r) (Reps.dp ds vs p q)
  | .lst ds, _, p, h => by
    obtain ⟨a, vs, rfl, _, r, q⟩ := h
    exact .lst (SqL.of r) (Reps.dp ds vs p q)
  | .dct _ _, _, p, _ => by cases p
  | .deck, _, p, _ => by cases p
  | .ty _, _, p, _ => by cases p
theorem Reps.dp : ∀ (ds : List D) (vs : List V), plains ds = true → Reps K Z N H ds vs → DpAll K H vs (toPs ds)
  | [], _, _, h => by cases h; exact .nil
  | d :: ds, _, p, h => by
    obtain ⟨v, r, rfl, h1, h2⟩ := h
    obtain ⟨p1, p2⟩ := Bool.and_eq_true_iff.mp p
    exact .cons (Rep.dp d v p1 h1) (Reps.dp ds r p2 h2)
end
end
/-- data that can be compared -/
def eqOk (d : D) : Bool := plain d && SeqAt.shaped (toP d)
def gEq : G2 := fun x y Q => match x, y with
  | .int i, .int j => Q (.bl (decide (i = j)))
  | .str i, .str j => Q (.bl (decide (i = j)))
  | x, y => (eqOk x = true ∧ eqOk y = true) ∧ Q (.bl (PyData.eqv (toP x) (toP y)))
def gNe : G2 := fun x y Q => match x, y with
  | .int i, .int j => Q (.bl (!decide (i = j)))
  | .str i, .str j => Q (.bl (!decide (i = j)))
  | x, y => (eqOk x = true ∧ eqOk y = true) ∧ Q (.bl (!PyData.eqv (toP x) (toP y)))
theorem opd_eq : OpD F (fun x y H Q => rEqD F.K x y H Q ∨ rEq x y H Q) gEq := ⟨by
  intro N H x y dx dy Qd Q n rx ry h k
  unfold gEq at h
  split at h
  · rename_i i j
    cases (show x = .int i from rx)
    cases (show y = .int j from ry)
    refine .inr ⟨rfl, k _ _ _ Ext.refl rep_bl ?_⟩
    rw [dec_int, Bool.beq_eq_decide_eq]
    exact h
  · rename_i i j
    cases (show x = .str i from rx)
    cases (show y = .str j from ry)
    refine .inr ⟨rfl, k _ _ _ Ext.refl rep_bl ?_⟩
    rw [dec_str, Bool.beq_eq_decide_eq]
    exact h
  · obtain ⟨⟨h1, h2⟩, q⟩ := h
    obtain ⟨p1, s1⟩ := Bool.and_eq_true_iff.mp h1
    obtain ⟨p2, s2⟩ := Bool.and_eq_true_iff.mp h2
    exact .inl ⟨_, _, Rep.dp dx x p1 rx, Rep.dp dy y p2 ry, s1, s2, k _ _ _ Ext.refl rep_bl q⟩⟩
theorem opd_ne : OpD F (fun x y H Q => rNeD F.K x y H Q ∨ rNe x y H Q) gNe := ⟨by
  intro N H x y dx dy Qd Q n rx ry h k
  unfold gNe at h
  split at h
  · rename_i i j
    cases (show x = .int i from rx)
    cases (show y = .int j from ry)
    refine .inr ⟨rfl, k _ _ _ Ext.refl rep_bl ?_⟩
    rw [dec_int, Bool.beq_eq_decide_eq]
    exact h
  · rename_i i j
    cases (show x = .str i from rx)
    cases (show y = .str j from ry)
    refine .inr ⟨rfl, k _ _ _ Ext.refl rep_bl ?_⟩
    rw [dec_str, Bool.beq_eq_decide_eq]
    exact h
  · obtain ⟨⟨h1, h2⟩, q⟩ := h
    obtain ⟨p1, s1⟩ := Bool.and_eq_true_iff.mp h1
    obtain ⟨p2, s2⟩ := Bool.and_eq_true_iff.mp h2
    exact .inl ⟨_, _, Rep.dp dx x p1 rx, Rep.dp dy y p2 ry, s1, s2, k _ _ _ Ext.refl rep_bl q⟩⟩
theorem d_eq (hK : F.K = X.K) (hu : X.A.units + 64 < cLine) (ha : PE X a (tD F Ta)) (hb : PE X b (tD F Tb)) : PE X (.Compare a [.Eq] [b] pos) (tD F (dBin gEq Ta Tb)) := by
  have o := opd_eq (F := F)
  rw [hK] at o
  exact d_cmp ((op_eqD hu).or op_eq) o ha hb (nomark _)
theorem d_ne (hK : F.K = X.K) (hu : X.A.units + 64 < cLine) (ha : PE X a (tD F Ta)) (hb : PE X b (tD F Tb)) : PE X (.Compare a [.NotEq] [b] pos) (tD F (dBin gNe Ta Tb)) := by
  have o := opd_ne (F := F)
  rw [hK] at o
  exact d_cmp ((op_neD hu).or op_ne) o ha hb (nomark _)
theorem dt_eq (hK : F.K = X.K) (hu : X.A.units + 64 < cLine) (ha : PE X a (tD F Ta)) (hb : PE X b (tD F Tb)) : PT X (.Compare a [.Eq] [b] pos) (tDT F (dTest (dBin gEq Ta Tb))) := by
  have o := opd_eq (F := F)
  rw [hK] at o
  exact dt_cmp ((op_eqD hu).or op_eq) o ha hb (nomark _)
theorem dt_ne (hK : F.K = X.K) (hu : X.A.units + 64 < cLine) (ha : PE X a (tD F Ta)) (hb : PE X b (tD F Tb)) : PT X (.Compare a [.NotEq] [b] pos) (tDT F (dTest (dBin gNe Ta Tb))) := by
  have o := opd_ne (F := F)
  rw [hK] at o
  exact dt_cmp ((op_neD hu).or op_ne) o ha hb (nomark _)

/-! ### argument lists, displays -/
def dNil : TDA := fun _ _ Q => Q []
def dCons (Ta : TDE) (Tr : TDA) : TDA := fun ξ env Q => Ta ξ env fun x => Tr ξ env fun xs => Q (x :: xs)
theorem da_nil : PA X [] (tDA F dNil) := PA.imp pa_nil (by
  rintro σ H Q ⟨N, env, Qd, f, hT, k⟩
  exact k [] H [] Ext.refl rfl hT)
theorem tCons_imp {Tr : TDA} : ∀ σ H Q, tDA F (dCons Ta Tr) σ H Q → tCons (tD F Ta) (tDA F Tr) σ H Q := by
  rintro σ H Q ⟨N, env, Qd, f, hT, k⟩
  refine ⟨N, env, _, f, hT, fun x H1 dx e1 r1 q1 => ?_⟩
  exact ⟨N, env, _, f.ext' e1, q1, fun xs H2 ds e2 r2 q2 => k _ H2 (dx :: ds) (e1.trans e2) ⟨x, xs, rfl, r1.ext e2 f.n.z, r2⟩ q2⟩
theorem da_cons {Tr : TDA} (ha : PE X e (tD F Ta)) (hr : PA X es (tDA F Tr)) (hs : starEach (e :: es) X.env = (false, eval e X.env) :: starEach es X.env := by rfl) : PA X (e :: es) (tDA F (dCons Ta Tr)) :=
  PA.imp (pa_cons ha hr hs) tCons_imp
def dTup (T : TDA) : TDE := fun ξ env Q => T ξ env fun ds => ds.length ≤ sizeLine ∧ Q (.tup ds)
def dLst (T : TDA) : TDE := fun ξ env Q => T ξ env fun ds => ds.length ≤ sizeLine ∧ Q (.lst ds)
theorem rep_newT {N : Addr → Prop} {H : Hp} {p : Addr} {vs : List V} {ds : List D} (n : NOk F N H) (hp : H p = none) (r : Reps F.K F.Z N H ds vs) : Rep F.K F.Z N (upd H p (.tup vs)) (.tup ds) (.ref p) :=
  ⟨p, vs, rfl, .inl ⟨n.fresh hp, upd_same⟩, r.ext (n.lay hp) n.z⟩
theorem rep_newL {N : Addr → Prop} {H : Hp} {p : Addr} {vs : List V} {ds : List D} (n : NOk F N H) (hp : H p = none) (r : Reps F.K F.Z N H ds vs) : Rep F.K F.Z N (upd H p (.lst vs)) (.lst ds) (.ref p) :=
  ⟨p, vs, rfl, n.fresh hp, upd_same, r.ext (n.lay hp) n.z⟩
theorem d_tup {x1 : _} (h : PA X es (tDA F Tas)) : PE X (.Tuple es x1 pos) (tD F (dTup Tas)) := PE.imp (pe_tup h) (by
  rintro σ H Q ⟨N, env, Qd, f, hT, k⟩
  refine ⟨N, env, _, f, hT, fun vs H1 ds e1 r1 q1 => ⟨by rw [← r1.length]; exact q1.1, fun p hp => ?_⟩⟩
  have n := (f.ext' e1).n
  exact k _ _ (.tup ds) (e1.trans (n.lay hp)) (rep_newT n hp r1) q1.2)
theorem d_lst (h : PA X es (tDA F Tas)) : PE X (.List es pos) (tD F (dLst Tas)) := PE.imp (pe_lst h) (by
  rintro σ H Q ⟨N, env, Qd, f, hT, k⟩
  refine ⟨N, env, _, f, hT, fun vs H1 ds e1 r1 q1 => ⟨by rw [← r1.length]; exact q1.1, fun p hp => ?_⟩⟩
  have n := (f.ext' e1).n
  exact k _ _ (.lst ds) (e1.trans (n.lay hp)) (rep_newL n hp r1) q1.2)

/-! ### subscripts -/
def gIx : G2 := fun x y Q => match x, y with
  | .tup ds, .int i => match atI ds i with
    | some d => Q d
    | none => False
  | .lst ds, .int i => match atI ds i with
    | some d => Q d
    | none => False
  | _, _ => False
theorem atI_rep {N : Addr → Prop} {H : Hp} {ds : List D} {vs : List V} {i : Int} {d : D} (r : Reps F.K F.Z N H ds vs) (h : atI ds i = some d) : ∃ v, atI vs i = some v ∧ Rep F.K F.Z N H d v := by
  unfold atI at h ⊢
  rw [← r.length]
  cases q : ixN ds.length i with
  | none => rw [q] at h; cases h
  | some j =>
    rw [q] at h
    obtain ⟨v, h1, h2⟩ := r.get (i := j) h
    exact ⟨v, h1, h2⟩
theorem opd_ix : OpD F (rIx F.K) gIx := ⟨by
  intro N H x y dx dy Qd Q n rx ry h k
  unfold gIx at h
  split at h
  · rename_i ds i
    split at h
    · rename_i d hd
      obtain ⟨a, vs, rfl, r, q⟩ := rx
      obtain ⟨v, h1, h2⟩ := atI_rep q hd
      exact .inr (.inl ⟨a, vs, i, v, rfl, ry, sqt_of r, h1, k _ _ _ Ext.refl h2 h⟩)
    · exact h.elim
  · rename_i ds i
    split at h
    · rename_i d hd
      obtain ⟨a, vs, rfl, _, r, q⟩ := rx
      obtain ⟨v, h1, h2⟩ := atI_rep q hd
      exact .inl ⟨a, vs, i, v, rfl, ry, SqL.of r, h1, k _ _ _ Ext.refl h2 h⟩
    · exact h.elim
  · exact h.elim⟩
theorem d_ix (hK : F.K = X.K) (ha : PE X a (tD F Ta)) (hb : PE X b (tD F Tb)) (hs : PlainIx b) : PE X (.Subscript a b pos) (tD F (dBin gIx Ta Tb)) := by
  have o := opd_ix (F := F)
  rw [hK] at o
  exact PE.imp (pe_ix ix_seq ha hb hs) (tOp_imp o)

/-! ### built-in functions -/
abbrev GA := List D → (D → Prop) → Prop
structure CallD (F : FP) (r : List V → Hp → VK → Prop) (g : GA) : Prop where
  ok : ∀ N H vs ds Qd (Q : VK), NOk F N H → Reps F.K F.Z N H ds vs → g ds Qd → (∀ v H' d, Ext F.Z H H' → Rep F.K F.Z N H' d v → Qd d → Q v H') → r vs H Q
def dCB (g : GA) (T : TDA) : TDE := fun ξ env Q => T ξ env fun ds => g ds Q
theorem tCB_imp {r : List V → Hp → VK → Prop} {g : GA} (hg : CallD F r g) : ∀ σ H Q, tD F (dCB g Tas) σ H Q → tCB r (tDA F Tas) σ H Q := by
  rintro σ H Q ⟨N, env, Qd, f, hT, k⟩
  refine ⟨N, env, _, f, hT, fun vs H1 ds e1 r1 q1 => ?_⟩
  exact hg.ok N H1 vs ds _ _ (f.ext' e1).n r1 q1 fun v H2 d e2 r2 q2 => k v H2 d (e1.trans e2) r2 q2
variable {x : Str} {p : Pos} {bid T : String} {r : List V → Hp → VK → Prop} {g : GA}
theorem d_callB (hg' : CallD F r g) (hc : CallR X (.builtin bid) r) (hg : Gl X x) (hm : X.mg x = none) (hv : bootBuiltins x = some (.builtin bid)) (ha : PA X (e :: es) (tDA F Tas)) (hn : x ≠ "__name__" := by decide) (hdb : (x == ("__debug__" : Str)) = false := by decide)
    (he : starEach (e :: es) X.env = (false, eval e X.env) :: starEach es X.env := by rfl) (hpl : (backTo pos (starEach es X.env)).any (·.1) = false := by rfl) : PE X (.Call (.Name x p) (e :: es) [] pos) (tD F (dCB g Tas)) :=
  PE.imp (pe_callB hc hg hm hv ha hn hdb he hpl) (tCB_imp hg')
theorem d_callTy (hg' : CallD F r g) (hc : CallR X (.type T) r) (hg : Gl X x) (hm : X.mg x = none) (hv : bootBuiltins x = some (.type T)) (ha : PA X (e :: es) (tDA F Tas)) (hn : x ≠ "__name__" := by decide) (hdb : (x == ("__debug__" : Str)) = false := by decide)
    (he : starEach (e :: es) X.env = (false, eval e X.env) :: starEach es X.env := by rfl) (hpl : (backTo pos (starEach es X.env)).any (·.1) = false := by rfl) : PE X (.Call (.Name x p) (e :: es) [] pos) (tD F (dCB g Tas)) :=
  PE.imp (pe_callTy hc hg hm hv ha hn hdb he hpl) (tCB_imp hg')
def gAbs : GA := fun xs Q => match xs with
  | [.int i] => Q (.int (if i < 0 then -i else i))
  | _ => False
theorem cd_abs : CallD F (fun xs H Q => ∃ i, xs = [.int i] ∧ Q (.int (if i < 0 then -i else i)) H) gAbs := ⟨by
  intro N H vs ds Qd Q n r h k
  unfold gAbs at h
  split at h
  · obtain ⟨v, r, rfl, h1, h2⟩ := r
    cases h2
    exact ⟨_, by rw [show v = _ from h1], k _ _ _ Ext.refl rep_int h⟩
  · exact h.elim⟩
def gLen : GA := fun xs Q => match xs with
  | [.tup ds] => Q (.int ds.length)
  | [.lst ds] => Q (.int ds.length)
  | _ => False
theorem cd_len : CallD F (fun xs H Q => ∃ p ys, xs = [.ref p] ∧ (SqL F.K H p ys ∨ SqT F.K H p ys) ∧ Q (.int ys.length) H) gLen := ⟨by
  intro N H vs ds Qd Q n r h k
  unfold gLen at h
  split at h
  · obtain ⟨v, r, rfl, h1, h2⟩ := r
    cases h2
    obtain ⟨a, vs, rfl, r, q⟩ := h1
    exact ⟨a, vs, rfl, .inr (sqt_of r), k _ _ _ Ext.refl rep_int (by rw [← q.length]; exact h)⟩
  · obtain ⟨v, r, rfl, h1, h2⟩ := r
    cases h2
    obtain ⟨a, vs, rfl, _, r, q⟩ := h1
    exact ⟨a, vs, rfl, .inl (SqL.of r), k _ _ _ Ext.refl rep_int (by rw [← q.length]; exact h)⟩
  · exact h.elim⟩
/-- int(n), int(flag) -/
def gInt : GA := fun xs Q => match xs with
  | [.int i] => Q (.int i)
  | [.bl b] => Q (.int (if b then 1 else 0))
  | _ => False
theorem cd_int : CallD F (fun xs H Q => (∃ i, xs = [.int i] ∧ Q (.int i) H) ∨ ∃ k, xs = [.bl k] ∧ Q (.int (if k then 1 else 0)) H) gInt := ⟨by
  intro N H vs ds Qd Q n r h k
  unfold gInt at h
  split at h
  · obtain ⟨v, r, rfl, h1, h2⟩ := r
    cases h2
    exact .inl ⟨_, by rw [show v = _ from h1], k _ _ _ Ext.refl rep_int h⟩
  · obtain ⟨v, r, rfl, h1, h2⟩ := r
    cases h2
    exact .inr ⟨_, by rw [show v = _ from h1], k _ _ _ Ext.refl rep_int h⟩
  · exact h.elim⟩
/-- all([..]) -/
def blsOf : List D → Option (List Bool)
  | [] => some []
  | .bl b :: ds => (blsOf ds).map (b :: ·)
  | _ :: _ => none
theorem blsOf_eq : ∀ {ds : List D} {bs : List Bool}, blsOf ds = some bs → ds = bs.map D.bl
  | [], bs, h => by simp [blsOf] at h; subst h; rfl
  | d :: ds, bs, h => by
    cases d <;> first | (simp [blsOf] at h; done) | skip
    rename_i b
    simp only [blsOf, Option.map_eq_some_iff] at h
    obtain ⟨r, h1, h2⟩ := h
    rw [← h2, blsOf_eq h1]; rfl
def gAll : GA := fun xs Q => match xs with
  | [.lst ds] => match blsOf ds with
    | some bs => Q (.bl (bs.all id))
    | none => False
  | _ => False
def gAny : GA := fun xs Q => match xs with
  | [.lst ds] => match blsOf ds with
    | some bs => Q (.bl (bs.any id))
    | none => False
  | _ => False
theorem cd_all : CallD F (fun vs H Q => ∃ (a : Addr) (bs : List Bool), vs = [V.ref a] ∧ SqL F.K H a (bs.map V.bl) ∧ Q (.bl (bs.all id)) H) gAll := ⟨by
  intro N H vs ds Qd Q n r h k
  unfold gAll at h
  split at h
  · split at h
    · rename_i ds bs hb
      obtain ⟨v, r, rfl, h1, h2⟩ := r
      cases h2
      obtain ⟨a, vs, rfl, _, r, q⟩ := h1
      rw [blsOf_eq hb] at q
      rw [q.bls] at r
      exact ⟨a, bs, rfl, SqL.of r, k _ _ _ Ext.refl rep_bl h⟩
    · exact h.elim
  · exact h.elim⟩
/-- isinstance(x, T) of the built-in types that occur -/
inductive PyT where
  | int | bool | tuple | list | str | dict
def PyT.name : PyT → String
  | .int => "int"
  | .bool => "bool"
  | .tuple => "tuple"
  | .list => "list"
  | .str => "str"
  | .dict => "dict"
def isD : PyT → D → Bool
  | .int, .int _ => true
  | .int, .bl _ => true
  | .bool, .bl _ => true
  | .tuple, .tup _ => true
  | .list, .lst _ => true
  | .dict, .dct _ _ => true
  | .str, .str _ => true
  | _, _ => false
def typed : D → Bool
  | .deck => false
  | .ty _ => false
  | _ => true
def gIsi (T : PyT) : GA := fun xs Q => match xs with
  | [x, _] => typed x = true ∧ Q (.bl (isD T x))
  | _ => False
theorem kt {K : PySem.W.Frag} {a b : String} {r r' : Bool} (h : kitB a b = some r) (e : r = r') : PySem.W.kitOne K (.type a) (.type b) = some r' := e ▸ kit_ty h
theorem kt_non : ∀ T : PyT, kitB "NoneType" T.name = some false := fun T => by cases T <;> decide +kernel
theorem kt_str : ∀ T : PyT, kitB "str" T.name = some (isD T (.str Str.empty)) := fun T => by cases T <;> decide +kernel
theorem kt_bl : ∀ T : PyT, kitB "bool" T.name = some (isD T (.bl true)) := fun T => by cases T <;> decide +kernel
theorem kt_int : ∀ T : PyT, kitB "int" T.name = some (isD T (.int 0)) := fun T => by cases T <;> decide +kernel
theorem kt_tup : ∀ T : PyT, kitB "tuple" T.name = some (isD T (.tup [])) := fun T => by cases T <;> decide +kernel
theorem kt_lst : ∀ T : PyT, kitB "list" T.name = some (isD T (.lst [])) := fun T => by cases T <;> decide +kernel
theorem kt_dct : ∀ T : PyT, kitB "dict" T.name = some (isD T (.dct [] [])) := fun T => by cases T <;> decide +kernel
theorem tyx_of {N : Addr → Prop} {H : Hp} : ∀ {d : D} {v : V}, typed d = true → Rep F.K F.Z N H d v → ∃ t, TyX F.K H v (.type t) ∧ ∀ T : PyT, PySem.W.kitOne F.K (.type t) (.type T.name) = some (isD T d)
  | .non, v, _, h => ⟨"NoneType", by rw [show v = _ from h]; exact .base .non, fun T => kt (kt_non T) (by cases T <;> rfl)⟩
  | .bl b, v, _, h => ⟨"bool", by rw [show v = _ from h]; exact .base (.bl b), fun T => kt (kt_bl T) (by cases T <;> rfl)⟩
  | .int b, v, _, h => ⟨"int", by rw [show v = _ from h]; exact .base (.int b), fun T => kt (kt_int T) (by cases T <;> rfl)⟩
  | .str b, v, _, h => ⟨"str", by rw [show v = _ from h]; exact .base (.str b), fun T => kt (kt_str T) (by cases T <;> rfl)⟩
  | .tup ds, v, _, h => by
    obtain ⟨a, vs, rfl, r, q⟩ := h
    refine ⟨"tuple", ?_, fun T => kt (kt_tup T) (by cases T <;> rfl)⟩
    rcases r with ⟨_, r⟩ | (r | ⟨_, r⟩) | ⟨o, _, _, h1, h2, _⟩
    · exact .base (.tup r)
    · cases r
    · cases r
    · exact .kTuple h1 h2
  | .lst ds, v, _, h => by
    obtain ⟨a, vs, rfl, _, r, q⟩ := h
    exact ⟨"list", .base (.lst r), fun T => kt (kt_lst T) (by cases T <;> rfl)⟩
  | .dct ks ds, v, _, h => by
    obtain ⟨a, vs, rfl, _, r, _, q⟩ := h
    exact ⟨"dict", .base (.dK r), fun T => kt (kt_dct T) (by cases T <;> rfl)⟩
  | .deck, _, p, _ => by cases p
  | .ty _, _, p, _ => by cases p
theorem cd_isi (T : PyT) : CallD F (fun xs H Q => (∃ (x c : V), xs = [x, c] ∧ c = .ty T.name) → rIsi F.K xs H Q) (gIsi T) := ⟨by
  intro N H vs ds Qd Q n r h k
  rintro ⟨x, c, rfl, rfl⟩
  unfold gIsi at h
  split at h
  · rename_i dx dc
    obtain ⟨v, r1, e1, h1, h2⟩ := r
    cases e1
    obtain ⟨t, h3, h4⟩ := tyx_of h.1 h1
    exact ⟨x, _, _, _, _, rfl, .ty _, h3, h4 T, k _ _ _ Ext.refl rep_bl h.2⟩
  · exact h.elim⟩
end
end DL
set_option Elab.async false
set_option linter.all false
set_option maxRecDepth 100000
namespace DL
open PySem PySem.Spec L2
open PyProof.Rows hiding St

section
variable {X : Cx} {F : FP} {e a b c : Expr} {es : List Expr} {st : Stmt} {rest : List Stmt} {pos : Pos} {Ta Tb Tc : TDE} {Tas : TDA} {T U : TDS}

theorem EndsOk.of {N0 : Addr → Prop} {H0 : Hp} {N : Addr → Prop} {H : Hp} {Dd : DEnds} {De : Ends} (ok : EndsOk F N0 H0 Dd De) (v : Evo N0 H0 N H) : EndsOk F N H Dd De :=
  ⟨fun N' σ H' env f e => ok.nx N' σ H' env f (v.trans e), ok.rt, fun N' σ H' env f e => ok.bk N' σ H' env f (v.trans e), fun N' σ H' env f e => ok.ct N' σ H' env f (v.trans e)⟩

/-! ### blocks -/
def dNext : TDS := fun _ De env => De.nx env
def dSeq (t u : TDS) : TDS := fun ξ De env => t ξ { De with nx := u ξ De } env
theorem ds_nil : PSs X [] (sD F dNext) := PSs.imp pss_nil (by
  rintro De σ H ⟨N, env, Dd, f, hT, ok⟩
  exact ok.nx _ _ _ _ f .refl hT)
theorem ds_pass : PS X (.Pass pos) (sD F dNext) := PS.imp ps_pass (by
  rintro De σ H ⟨N, env, Dd, f, hT, ok⟩
  exact ok.nx _ _ _ _ f .refl hT)
theorem ds_cons (h1 : PS X st (sD F T)) (h2 : PSs X rest (sD F U)) : PSs X (st :: rest) (sD F (dSeq T U)) := PSs.imp (pss_cons h1 h2) (by
  rintro De σ H ⟨N, env, Dd, f, hT, ok⟩
  exact ⟨N, env, { Dd with nx := U F.ex Dd }, f, hT, ⟨fun N' σ' H' env' f' v hu => ⟨N', env', Dd, f', hu, ok.of v⟩, ok.rt, ok.bk, ok.ct⟩⟩)
theorem ds_one (h1 : PS X st (sD F T)) : PSs X [st] (sD F T) := pss_one h1
def dBreak : TDS := fun _ De env => De.bk env
def dCont : TDS := fun _ De env => De.ct env
theorem ds_break : PS X (.Break pos) (sD F dBreak) := PS.imp ps_break (by
  rintro De σ H ⟨N, env, Dd, f, hT, ok⟩
  exact ok.bk _ _ _ _ f .refl hT)
theorem ds_continue : PS X (.Continue pos) (sD F dCont) := PS.imp ps_continue (by
  rintro De σ H ⟨N, env, Dd, f, hT, ok⟩
  exact ok.ct _ _ _ _ f .refl hT)
def dDrop (T : TDE) : TDS := fun ξ De env => T ξ env fun _ => De.nx env
theorem ds_expr (he : PE X e (tD F Ta)) (hs : swapsWith e none pos.line X.env = pure false := by rfl) : PS X (.Expr e pos) (sD F (dDrop Ta)) := PS.imp (ps_expr he hs) (by
  rintro De σ H ⟨N, env, Dd, f, hT, ok⟩
  exact ⟨N, env, _, f, hT, fun v H' d e1 r q => ok.nx _ _ _ _ (f.ext' e1) (.of f.n e1) q⟩)
def dRet (T : TDE) : TDS := fun ξ De env => T ξ env De.rt
theorem ds_ret (he : PE X e (tD F Ta)) : PS X (.Return (some e) pos) (sD F (dRet Ta)) := PS.imp (ps_ret he) (by
  rintro De σ H ⟨N, env, Dd, f, hT, ok⟩
  exact ⟨N, env, _, f, hT, fun v H' d e1 r q => ok.rt v H' d (f.n.ext.trans e1) (r.less f.n.sub) q⟩)
def dRetN : TDS := fun _ De _ => De.rt .non
theorem ds_retN : PS X (.Return none pos) (sD F dRetN) := PS.imp ps_retN (by
  rintro De σ H ⟨N, env, Dd, f, hT, ok⟩
  exact ok.rt _ _ _ f.n.ext rep_non hT)
def dIfS (c : TDT) (t u : TDS) : TDS := fun ξ De env => c ξ env fun b => if b = true then t ξ De env else u ξ De env
theorem ds_if {c : Expr} {a b : List Stmt} {tc : TDT} (hc : PT X c (tDT F tc)) (ha : PSs X a (sD F T)) (hb : PSs X b (sD F U)) : PS X (.If c a b pos) (sD F (dIfS tc T U)) := PS.imp (ps_if hc ha hb) (by
  rintro De σ H ⟨N, env, Dd, f, hT, ok⟩
  refine ⟨N, env, _, f, hT, fun k H1 e1 q1 => ?_⟩
  by_cases hk : k = true
  · rw [if_pos hk] at q1 ⊢
    exact ⟨N, env, Dd, f.ext' e1, q1, ok.of (.of f.n e1)⟩
  · rw [if_neg hk] at q1 ⊢
    exact ⟨N, env, Dd, f.ext' e1, q1, ok.of (.of f.n e1)⟩)
/-- never come to -/
def dNever : TDS := fun _ _ _ => False
theorem ds_never : PS X st (sD F dNever) := PS.imp ps_never (by
  rintro De σ H ⟨N, env, Dd, f, hT, ok⟩
  exact hT.elim)
theorem dss_never {sts : List Stmt} : PSs X sts (sD F dNever) := PSs.imp pss_never (by
  rintro De σ H ⟨N, env, Dd, f, hT, ok⟩
  exact hT.elim)

/-! ### targets -/
theorem FOk.set {N : Addr → Prop} {σ : L2.St} {H : Hp} {env : SE} (f : FOk F N σ H env) (i : Nat) {x : D} {v : V} (r : Rep F.K F.Z N H x v) : FOk F N (σ.set i (some v)) H (env.set i (.d x)) where
  n := f.n
  len := by rw [List.length_set, List.length_set]; exact f.len
  slot := fun j s h => by
    by_cases hj : i = j
    · subst hj
      have hl : i < env.length := by
        have := (List.getElem?_eq_some_iff.mp h).1
        rwa [List.length_set] at this
      rw [List.getElem?_set_self hl] at h
      cases h
      exact ⟨v, by rw [List.getElem?_set_self (by rw [f.len]; exact hl)], r⟩
    · rw [List.getElem?_set_ne hj] at h
      rw [List.getElem?_set_ne hj]
      exact f.slot j s h
  apart := fun j k p xs ys hjk h1 h2 h3 h4 => by
    have o : ∀ {j : Nat} {xs : List D}, (env.set i (.d x))[j]? = some (.own xs) → i ≠ j ∧ env[j]? = some (.own xs) := fun {j xs} h => by
      by_cases hj : i = j
      · subst hj
        have hl : i < env.length := by
          have := (List.getElem?_eq_some_iff.mp h).1
          rwa [List.length_set] at this
        rw [List.getElem?_set_self hl] at h
        cases h
      · rw [List.getElem?_set_ne hj] at h
        exact ⟨hj, h⟩
    obtain ⟨n1, h1⟩ := o h1
    obtain ⟨n2, h2⟩ := o h2
    rw [List.getElem?_set_ne n1] at h3
    rw [List.getElem?_set_ne n2] at h4
    exact f.apart j k p xs ys hjk h1 h2 h3 h4
abbrev TDG := D → SE → (SE → Prop) → Prop
abbrev TDGs := List D → SE → (SE → Prop) → Prop
def gD (F : FP) (G : TDG) : TG := fun v σ H Q => ∃ N env d Qd, FOk F N σ H env ∧ Rep F.K F.Z N H d v ∧ G d env Qd ∧ ∀ σ' env', FOk F N σ' H env' → Qd env' → Q σ' H
def gDs (F : FP) (G : TDGs) : TGs := fun vs σ H Q => ∃ N env ds Qd, FOk F N σ H env ∧ Reps F.K F.Z N H ds vs ∧ G ds env Qd ∧ ∀ σ' env', FOk F N σ' H env' → Qd env' → Q σ' H
theorem PG.imp {t t' : TG} (h : PG X e t) (hi : ∀ v σ H Q, t' v σ H Q → t v σ H Q) : PG X e t' := ⟨fun pins s σ H v u Q I r hw => h.run pins s σ H v u Q I r (hi _ _ _ _ hw)⟩
theorem PGs.imp {t t' : TGs} (h : PGs X es t) (hi : ∀ v σ H Q, t' v σ H Q → t v σ H Q) : PGs X es t' := ⟨fun pins s σ H v u Q I r hw => h.run pins s σ H v u Q I r (hi _ _ _ _ hw)⟩
def dgName (i : Nat) : TDG := fun d env Q => Q (env.set i (.d d))
theorem dg_name {i : Nat} (h : PG X e (gName i)) : PG X e (gD F (dgName i)) := PG.imp h (by
  rintro v σ H Q ⟨N, env, d, Qd, f, r, hG, k⟩
  exact k _ _ (f.set i r) hG)
def dgNil : TDGs := fun ds env Q => match ds with
  | [] => Q env
  | _ => False
def dgCons (G : TDG) (Gs : TDGs) : TDGs := fun ds env Q => match ds with
  | d :: r => G d env fun env' => Gs r env' Q
  | [] => False
theorem dgs_nil : PGs X [] (gDs F dgNil) := PGs.imp pgs_nil (by
  rintro v σ H Q ⟨N, env, ds, Qd, f, r, hG, k⟩
  cases ds with
  | nil => exact ⟨r, k _ _ f hG⟩
  | cons d ds => exact hG.elim)
/-- targets that leave the frame's frozen part as it is (names, tuples of names) -/
theorem dgs_cons {G : TDG} {Gs : TDGs} (h1 : PG X e (gD F G)) (h2 : PGs X es (gDs F Gs)) (hc : (assignEach (e :: es) X.env).map (·.2) = assign e X.env :: (assignEach es X.env).map (·.2) := by rfl) : PGs X (e :: es) (gDs F (dgCons G Gs)) := PGs.imp (pgs_cons h1 h2 hc) (by
  rintro v σ H Q ⟨N, env, ds, Qd, f, r, hG, k⟩
  cases ds with
  | nil => exact hG.elim
  | cons d ds =>
    obtain ⟨v0, vr, rfl, r1, r2⟩ := r
    exact ⟨v0, vr, rfl, N, env, d, _, f, r1, hG, fun σ' env' f' q => ⟨N, env', ds, _, f', r2, q, k⟩⟩)
def dgTup (n : Nat) (Gs : TDGs) : TDG := fun d env Q => match d with
  | .tup ds => ds.length = n ∧ Gs ds env Q
  | _ => False
theorem dg_tup {Gs : TDGs} {k n : Nat} (hK : F.K = X.K) (hc : X.calm = true) (h : PGs X es (gDs F Gs)) (hn : (assignEach es X.env).length = n := by rfl) (hst : (assignEach es X.env).findIdx? (·.1) = none := by rfl) :
    PG X (.Tuple es k pos) (gD F (dgTup n Gs)) := PG.imp (pg_tup hc h hn hst) (by
  rintro v σ H Q ⟨N, env, d, Qd, f, r, hG, k⟩
  cases d <;> first | exact hG.elim | skip
  rename_i ds
  obtain ⟨a, vs, rfl, r1, r2⟩ := r
  exact ⟨a, vs, rfl, by rw [← hK]; exact sqt_of r1, by rw [← r2.length]; exact hG.1, N, env, ds, _, f, r2, hG.2, k⟩)
def dAsg (T : TDE) (G : TDG) : TDS := fun ξ De env => T ξ env fun x => G x env De.nx
theorem tAsg_imp {G : TDG} : ∀ De σ H, sD F (dAsg Ta G) De σ H → tAsg (tD F Ta) (gD F G) De σ H := by
  rintro De σ H ⟨N, env, Dd, f, hT, ok⟩
  exact ⟨N, env, _, f, hT, fun v H' d e1 r q => ⟨N, env, d, _, f.ext' e1, r, q, fun σ' env' f' q' => ok.nx _ _ _ _ f' (.of f.n e1) q'⟩⟩
theorem ds_asg {tg : Expr} {G : TDG} (he : PE X e (tD F Ta)) (hg : PG X tg (gD F G)) (hs : swapsWithSole [tg] e pos.line X.env = pure false := by rfl) (hw : swappedStores [tg] e X.env = pure none := by rfl) (h1 : (assignEach [tg] X.env).map (·.2) = [assign tg X.env] := by rfl) : PS X (.Assign [tg] e pos) (sD F (dAsg Ta G)) :=
  PS.imp (ps_asg he hg hs hw h1) tAsg_imp
/-- x = e, x in slot i -/
theorem ds_set {i : Nat} {x : Str} {pos' : Pos} (hN : X.N.Nodup) (hi : X.N[i]? = some x) (hx : Loc X.env.scope x) (he : PE X e (tD F Ta)) (hs : swapsWith e (some (.Name x pos')) pos.line X.env = pure false := by rfl)
    (hf : X.fn x = true ∨ X.env.scope.names.lookup x = some .local := by first | exact .inl rfl | exact .inr rfl | assumption) : PS X (.Assign [.Name x pos'] e pos) (sD F (dAsg Ta (dgName i))) :=
  PS.imp (ps_set hN hi hx he hs hf) (by
  rintro De σ H ⟨N, env, Dd, f, hT, ok⟩
  exact ⟨N, env, _, f, hT, fun v H' d e1 r q => ok.nx _ _ _ _ ((f.ext' e1).set i r) (.of f.n e1) q⟩)
/-- x, y = a, b -/
def dPar (i j : Nat) (Ta : TDA) : TDS := fun ξ De env => Ta ξ env fun ds => match ds with
  | [x, y] => De.nx ((env.set i (.d x)).set j (.d y))
  | _ => False
theorem tPar_imp {i j : Nat} : ∀ De σ H, sD F (dPar i j Tas) De σ H → tPar i j (tDA F Tas) De σ H := by
  rintro De σ H ⟨N, env, Dd, f, hT, ok⟩
  refine ⟨N, env, _, f, hT, fun vs H' ds e1 r q => ?_⟩
  split at q
  · obtain ⟨v, _, rfl, r1, w, _, rfl, r2, r3⟩ := r
    cases r3
    exact ⟨v, w, rfl, ok.nx _ _ _ _ (((f.ext' e1).set i r1).set j r2) (.of f.n e1) q⟩
  · exact q.elim
def dPar3 (i j l : Nat) (Ta : TDA) : TDS := fun ξ De env => Ta ξ env fun ds => match ds with
  | [x, y, z] => De.nx (((env.set i (.d x)).set j (.d y)).set l (.d z))
  | _ => False
theorem tPar3_imp {i j l : Nat} : ∀ De σ H, sD F (dPar3 i j l Tas) De σ H → tPar3 i j l (tDA F Tas) De σ H := by
  rintro De σ H ⟨N, env, Dd, f, hT, ok⟩
  refine ⟨N, env, _, f, hT, fun vs H' ds e1 r q => ?_⟩
  split at q
  · obtain ⟨v, _, rfl, r1, w, _, rfl, r2, u, _, rfl, r3, r4⟩ := r
    cases r4
    exact ⟨v, w, u, rfl, ok.nx _ _ _ _ ((((f.ext' e1).set i r1).set j r2).set l r3) (.of f.n e1) q⟩
  · exact q.elim
/-- x += e of ints -/
def dAug (i : Nat) (g : G2) (T : TDE) : TDS := fun ξ De env => match env[i]? with
  | some (.d x) => T ξ env fun y => g x y fun z => De.nx (env.set i (.d z))
  | _ => False

/-! ### for -/
def forD (G : TDG) (B : TDS) (ξ : XW) (De : DEnds) : List D → SE → Prop
  | [], env => De.nx env
  | d :: ds, env => G d env fun env' => B ξ { De with nx := forD G B ξ De ds, ct := forD G B ξ De ds, bk := De.nx } env'
def dFor (T : TDE) (G : TDG) (B : TDS) : TDS := fun ξ De env => T ξ env fun d => match d with
  | .lst ds => forD G B ξ De ds env
  | _ => False
def dForT (T : TDE) (G : TDG) (B : TDS) : TDS := fun ξ De env => T ξ env fun d => match d with
  | .tup ds => forD G B ξ De ds env
  | _ => False
theorem forD_step {G : TDG} {B : TDS} {De : Ends} {Dd : DEnds} {N0 N : Addr → Prop} {H0 H : Hp} {σ : L2.St} {env : SE} {d : D} {v : V} {i : Nat} {all : List D} {Pv : Nat → L2.St → Hp → Prop}
    (hP : ∀ i σ H, Pv i σ H ↔ ∃ N env, FOk F N σ H env ∧ Evo N0 H0 N H ∧ forD G B F.ex Dd (all.drop i) env) (ok : EndsOk F N0 H0 Dd De) (f : FOk F N σ H env) (ev : Evo N0 H0 N H)
    (hd : all[i]? = some d) (r : Rep F.K F.Z N H d v) (h : forD G B F.ex Dd (all.drop i) env) :
    gD F G v σ H fun σ2 H2 => sD F B { De with nx := Pv (i + 1), ct := Pv (i + 1), bk := De.nx } σ2 H2 := by
  obtain ⟨hi, e⟩ := List.getElem?_eq_some_iff.mp hd
  rw [List.drop_eq_getElem_cons hi, e] at h
  refine ⟨N, env, d, _, f, r, h, fun σ' env' f' q => ⟨N, env', _, f', q, ⟨fun N1 σ1 H1 env1 f1 v1 q1 => ?_, ok.rt, fun N1 σ1 H1 env1 f1 v1 q1 => ok.nx _ _ _ _ f1 (ev.trans v1) q1, fun N1 σ1 H1 env1 f1 v1 q1 => ?_⟩⟩⟩
  · exact (hP _ _ _).mpr ⟨N1, env1, f1, ev.trans v1, q1⟩
  · exact (hP _ _ _).mpr ⟨N1, env1, f1, ev.trans v1, q1⟩
theorem ds_for {iter tg : Expr} {body : List Stmt} {G : TDG} {B : TDS} (hK : F.K = X.K) (hp : PassesOwn (model X.prog X.w) X.A X.env X.xe) (hc : X.calm = true) (hi : PE X iter (tD F Ta)) (hg : PG X tg (gD F G)) (hb : PSs X body (sD F B))
    (hs : ∀ x, foldedSetIterable iter X.env x = pure x := by intro _; rfl) : PS X (.For tg iter body [] pos) (sD F (dFor Ta G B)) := PS.imp (ps_for hp hc (pi_list hi) hg hb hs) (by
  rintro De σ H ⟨N, env, Dd, f, hT, ok⟩
  refine ⟨N, env, _, f, hT, fun v H1 d e1 r q => ?_⟩
  cases d <;> first | exact q.elim | skip
  rename_i ds
  obtain ⟨a, vs, rfl, na, ra, rs⟩ := r
  refine ⟨a, rfl, ⟨vs, SqL.of ra⟩, ?_⟩
  have f1 := f.ext' e1
  have ok1 := ok.of (.of f.n e1)
  refine for_list (K := X.K) (a := a) (xs := vs) (fun i σ H' => ∃ N' env', FOk F N' σ H' env' ∧ Evo N H1 N' H' ∧ forD G B F.ex Dd (ds.drop i) env') ⟨N, env, f1, .refl, q⟩ (fun i σ' H' _ ⟨N', env', f', ev, _⟩ => SqL.of (ev a _ na kp_lst ra).1) ?_ ?_
  · rintro i x σ' H' hx ⟨N', env', f', ev, q'⟩
    obtain ⟨d, hd, rd⟩ := rs.getV hx
    exact forD_step (fun _ _ _ => Iff.rfl) ok1 f' ev hd (Rep.mono ev d x rd) q'
  · rintro σ' H' ⟨N', env', f', ev, q'⟩
    rw [← rs.length, List.drop_length] at q'
    exact ok1.nx _ _ _ _ f' ev q')
theorem ds_forT {iter tg : Expr} {body : List Stmt} {G : TDG} {B : TDS} (hK : F.K = X.K) (hp : PassesOwn (model X.prog X.w) X.A X.env X.xe) (hc : X.calm = true) (hi : PE X iter (tD F Ta)) (hg : PG X tg (gD F G)) (hb : PSs X body (sD F B))
    (hs : ∀ x, foldedSetIterable iter X.env x = pure x := by intro _; rfl) : PS X (.For tg iter body [] pos) (sD F (dForT Ta G B)) := PS.imp (ps_for hp hc (pi_tup hi) hg hb hs) (by
  rintro De σ H ⟨N, env, Dd, f, hT, ok⟩
  refine ⟨N, env, _, f, hT, fun v H1 d e1 r q => ?_⟩
  cases d <;> first | exact q.elim | skip
  rename_i ds
  obtain ⟨a, vs, rfl, ra, rs⟩ := r
  refine ⟨a, rfl, ⟨vs, by rw [← hK]; exact sqt_of ra⟩, ?_⟩
  have f1 := f.ext' e1
  have ok1 := ok.of (.of f.n e1)
  refine for_tup (K := X.K) (a := a) (xs := vs) (fun i σ H' => ∃ N' env', FOk F N' σ H' env' ∧ Evo N H1 N' H' ∧ forD G B F.ex Dd (ds.drop i) env') ⟨N, env, f1, .refl, q⟩ (fun i σ' H' _ ⟨N', env', f', ev, _⟩ => ?_) ?_ ?_
  · rw [← hK]
    refine sqt_of (N := N') ?_
    rcases ra with ⟨n, ra⟩ | ra
    · obtain ⟨h1, h2⟩ := ev a _ n kp_tup ra
      exact .inl ⟨h2, h1⟩
    · exact .inr ra
  · rintro i x σ' H' hx ⟨N', env', f', ev, q'⟩
    obtain ⟨d, hd, rd⟩ := rs.getV hx
    exact forD_step (fun _ _ _ => Iff.rfl) ok1 f' ev hd (Rep.mono ev d x rd) q'
  · rintro σ' H' ⟨N', env', f', ev, q'⟩
    rw [← rs.length, List.drop_length] at q'
    exact ok1.nx _ _ _ _ f' ev q')
/-- the ints lo, lo + 1, .. -/
def intsD (lo : Int) (n : Nat) : List D := (List.range n).map fun (i : Nat) => D.int (lo + i)
theorem ints_get {lo : Int} {n i : Nat} (h : i < n) : (intsD lo n)[i]? = some (.int (lo + i)) := by
  unfold intsD
  rw [List.getElem?_map, List.getElem?_range h]
  rfl
theorem ints_len {lo : Int} {n : Nat} : (intsD lo n).length = n := by simp [intsD]
def dForR (T : TDA) (G : TDG) (B : TDS) : TDS := fun ξ De env => T ξ env fun ds => match ds with
  | [.int j] => (-(2 ^ 62) ≤ j ∧ j < 2 ^ 62) ∧ forD G B ξ De (intsD 0 j.toNat) env
  | _ => False
def dForR2 (T : TDA) (G : TDG) (B : TDS) : TDS := fun ξ De env => T ξ env fun ds => match ds with
  | [.int i, .int j] => (-(2 ^ 62) ≤ i ∧ i < 2 ^ 62 ∧ -(2 ^ 62) ≤ j ∧ j < 2 ^ 62) ∧ forD G B ξ De (intsD i (j - i).toNat) env
  | _ => False
theorem for_rangeD {G : TDG} {B : TDS} {De : Ends} {Dd : DEnds} {N : Addr → Prop} {H1 : Hp} {σ : L2.St} {env : SE} {lo : Int} {n : Nat} (ok1 : EndsOk F N H1 Dd De) (f1 : FOk F N σ H1 env) (q : forD G B F.ex Dd (intsD lo n) env) :
    ∃ W : Nat → Nat → L2.St → Hp → Prop, (∃ m, W 0 m σ H1) ∧ ∀ i m σ H, W i m σ H →
      ((Itr lo n).stop i H ∧ De.nx σ H) ∨ ((Itr lo n).go i H ∧ ∃ N : L2.St → Hp → Prop, (∀ σ' H', N σ' H' → ∃ m', m' < m ∧ W (i + 1) m' σ' H') ∧ ∀ x H', (Itr lo n).yld i H x H' → gD F G x σ H' fun σ2 H2 => sD F B { De with nx := N, ct := N, bk := De.nx } σ2 H2) := by
  refine for_range (lo := lo) (n := n) (fun i σ H' => ∃ N' env', FOk F N' σ H' env' ∧ Evo N H1 N' H' ∧ forD G B F.ex Dd ((intsD lo n).drop i) env') ⟨N, env, f1, .refl, q⟩ ?_ ?_
  · rintro i σ' H' hi ⟨N', env', f', ev, q'⟩
    exact forD_step (fun _ _ _ => Iff.rfl) ok1 f' ev (ints_get hi) rep_int q'
  · rintro σ' H' ⟨N', env', f', ev, q'⟩
    rw [show (intsD lo n).drop n = [] from by rw [List.drop_eq_nil_iff, ints_len]; exact Nat.le_refl _] at q'
    exact ok1.nx _ _ _ _ f' ev q'
theorem ds_forR1 {tg a : Expr} {p pos' : Pos} {body : List Stmt} {G : TDG} {B : TDS} (hp : PassesOwn (model X.prog X.w) X.A X.env X.xe) (hc : X.calm = true) (hgl : Gl X "range") (hm : X.mg "range" = none) (ha : PA X [a] (tDA F Tas)) (hg : PG X tg (gD F G)) (hb : PSs X body (sD F B))
    (hsa : starEach [a] X.env = [(false, eval a X.env)] := by rfl) (hs : ∀ x, foldedSetIterable (.Call (.Name "range" p) [a] [] pos') X.env x = pure x := by intro _; rfl) : PS X (.For tg (.Call (.Name "range" p) [a] [] pos') body [] pos) (sD F (dForR Tas G B)) := PS.imp (ps_for hp hc (pi_range1 hgl hm ha hsa) hg hb hs) (by
  rintro De σ H ⟨N, env, Dd, f, hT, ok⟩
  refine ⟨N, env, _, f, hT, fun vs H1 ds e1 r q => ?_⟩
  split at q
  · obtain ⟨v, _, rfl, r1, r2⟩ := r
    cases r2
    refine ⟨_, by rw [show v = _ from r1], q.1.1, q.1.2, ?_⟩
    exact for_rangeD (ok.of (.of f.n e1)) (f.ext' e1) q.2
  · exact q.elim)
theorem ds_forR2 {tg a b : Expr} {p pos' : Pos} {body : List Stmt} {G : TDG} {B : TDS} (hp : PassesOwn (model X.prog X.w) X.A X.env X.xe) (hc : X.calm = true) (hgl : Gl X "range") (hm : X.mg "range" = none) (ha : PA X [a, b] (tDA F Tas)) (hg : PG X tg (gD F G)) (hb : PSs X body (sD F B))
    (hsa : starEach [a, b] X.env = [(false, eval a X.env), (false, eval b X.env)] := by rfl) (hs2 : starEach [b] X.env = [(false, eval b X.env)] := by rfl) (hs : ∀ x, foldedSetIterable (.Call (.Name "range" p) [a, b] [] pos') X.env x = pure x := by intro _; rfl) : PS X (.For tg (.Call (.Name "range" p) [a, b] [] pos') body [] pos) (sD F (dForR2 Tas G B)) := PS.imp (ps_for hp hc (pi_range2 hgl hm ha hsa hs2) hg hb hs) (by
  rintro De σ H ⟨N, env, Dd, f, hT, ok⟩
  refine ⟨N, env, _, f, hT, fun vs H1 ds e1 r q => ?_⟩
  split at q
  · obtain ⟨v, _, rfl, r1, w, _, rfl, r2, r3⟩ := r
    cases r3
    refine ⟨_, _, by rw [show v = _ from r1, show w = _ from r2], q.1, ?_⟩
    exact for_rangeD (ok.of (.of f.n e1)) (f.ext' e1) q.2
  · exact q.elim)

/-! ### while -/
def whileN (c : TDT) (B : TDS) (ξ : XW) (De : DEnds) : Nat → SE → Prop
  | 0, _ => False
  | n + 1, env => c ξ env fun k => if k = true then B ξ { De with nx := whileN c B ξ De n, ct := whileN c B ξ De n, bk := De.nx } env else De.nx env
def dWhile (c : TDT) (B : TDS) : TDS := fun ξ De env => ∃ n, whileN c B ξ De n env
theorem ds_while {c : Expr} {body : List Stmt} {C : TDT} {B : TDS} (hp : PassesOwn (model X.prog X.w) X.A X.env X.xe) (hc : PT X c (tDT F C)) (hb : PSs X body (sD F B)) : PS X (.While c body [] pos) (sD F (dWhile C B)) := PS.imp (ps_while hp hc hb) (by
  rintro De σ H ⟨N, env, Dd, f, ⟨n, hT⟩, ok⟩
  refine ⟨fun m σ' H' => ∃ N' env', FOk F N' σ' H' env' ∧ Evo N H N' H' ∧ whileN C B F.ex Dd m env', ⟨n, N, env, f, .refl, hT⟩, ?_⟩
  rintro m σ' H' ⟨N', env', f', ev, q⟩
  cases m with
  | zero => exact q.elim
  | succ m =>
    refine ⟨N', env', _, f', q, fun k H2 e2 q2 => ?_⟩
    have ev2 : Evo N H N' H2 := ev.trans (.of f'.n e2)
    by_cases hk : k = true
    · subst hk
      rw [if_pos rfl] at q2
      refine iteT ?_
      refine ⟨fun σ3 H3 => ∃ N3 env3, FOk F N3 σ3 H3 env3 ∧ Evo N H N3 H3 ∧ whileN C B F.ex Dd m env3, fun σ3 H3 q3 => ⟨m, Nat.lt_succ_self m, q3⟩, N', env', _, f'.ext' e2, q2, ?_⟩
      exact ⟨fun N1 σ1 H1 env1 f1 v1 q1 => ⟨N1, env1, f1, ev2.trans v1, q1⟩, ok.rt, fun N1 σ1 H1 env1 f1 v1 q1 => ok.nx _ _ _ _ f1 (ev2.trans v1) q1, fun N1 σ1 H1 env1 f1 v1 q1 => ⟨N1, env1, f1, ev2.trans v1, q1⟩⟩
    · rw [Bool.not_eq_true] at hk
      subst hk
      rw [if_neg Bool.false_ne_true] at q2
      exact iteF (ok.nx _ _ _ _ (f'.ext' e2) ev2 q2))
end
end DL
set_option Elab.async false
set_option linter.all false
set_option maxRecDepth 100000
namespace DL
open PySem PySem.Spec L2
open PyProof.Rows hiding St

/-! ### defs, where no text is being written -/
structure RoomG (k : Nat) (A : Around) : Prop where
  r : Room k A
  g : A.guards = some []
theorem RoomG.mono {j k : Nat} {A : Around} (h : RoomG k A) (l : j ≤ k) : RoomG j A := ⟨h.r.mono l, h.g⟩
theorem units80 {k : Nat} {A : Around} (r : Room k A) : A.units + 80 < cLine := by have := r.un; omega
theorem guards_deeper {A : Around} {env : Env} (h : A.guards = some []) : (A.deeper env).guards = some [] := by
  first | exact h | (simpa [Around.deeper] using h)
structure FnG (P : Program) (w : World) (K : PySem.W.Frag) (mg : Str → Option Value) (base : Heap) (CX : CXT) (k : Nat) (f : Addr) (fd : FuncData) (ps : List Str) (sp : Sp) : Prop where
  len : ∀ vs H Q E, sp vs H Q E → vs.length = ps.length
  run : ∀ (A : Around) (outer : List Env) (s : Shared) (H : Hp) (args : Args) (us : List Value) (vs : List V) (Q : VK) (E : XK), RoomG k A → Env0 P w K mg base A outer s H → BindsTo s fd args (ps.zip us) → Vals vs us → sp vs H Q E →
    codeAny (model P w) A (.call (.ref f) args) (CR CX outer P w H s Q E) s
section
variable {P : Program} {w : World} {K : PySem.W.Frag} {mg : Str → Option Value} {base : Heap} {CX : CXT} {k : Nat} {f : Addr} {fd : FuncData} {N ps : List Str} {sp : Sp}
theorem FnG.mono {j : Nat} (G : FnG P w K mg base CX j f fd ps sp) (h : j ≤ k) : FnG P w K mg base CX k f fd ps sp :=
  ⟨G.len, fun A outer s H args us vs Q E hr => G.run A outer s H args us vs Q E (hr.mono h)⟩
theorem FnG.imp {sp' : Sp} (G : FnG P w K mg base CX k f fd ps sp) (h : ∀ vs H Q E, sp' vs H Q E → sp vs H Q E) : FnG P w K mg base CX k f fd ps sp' :=
  ⟨fun vs H Q E q => G.len _ _ _ _ (h _ _ _ _ q), fun A outer s H args us vs Q E hr he hb hv hs => G.run A outer s H args us vs Q E hr he hb hv (h _ _ _ _ hs)⟩
theorem FnOk.toG (G : FnOk P w K mg base CX k f fd ps sp) : FnG P w K mg base CX k f fd ps sp :=
  ⟨G.len, fun A outer s H args us vs Q E hr => G.run A outer s H args us vs Q E hr.r⟩
/-- a def's body, by a term for each entry -/
theorem fng_ofC {x qual : Str} {params : Arguments} {body : List Stmt} {scope : Scope} {dvs : List V} {kws : List (Str × V)} (F : FunD K x qual params body scope dvs kws f fd) (S : FnScope N ps scope)
    (len : ∀ vs H Q E, sp vs H Q E → vs.length = ps.length)
    (hb : ∀ (cdv : Value) (A : Around) (outer : List Env) (s : Shared) (H : Hp) (vs : List V) (Q : VK) (E : XK), RoomG k (A.deeper (envOfC qual scope s.heap.objs.size f cdv)) → (PySem.W.codeIn K cdv qual = true ∧ fd.code = cdv) → sp vs H Q E →
      ∃ t, PSs (cxOf CX P w K mg base N qual scope f cdv A outer s H E) body t ∧ t { nx := fun _ H' => Q .non H', rt := Q } (start N vs) H) : FnG P w K mg base CX (k + 1) f fd ps sp := by
  obtain ⟨oc, od, dV, kV, doc, pm, an, cdv, ct, osl, efd, lk, hcd, _, _⟩ := F.ex
  subst efd
  constructor
  · exact len
  intro A outer s H args us vs Q E room e0 bnd rel wish
  have lenv := len _ _ _ _ wish
  have still : ∀ b o, base.get? b = some o → s.heap.get? b = some o := fun b o e => (e0.bs b o e).1
  have inK : K.In s.heap := e0.mod.kin.keeps still
  have noLim : s.heap.NoLimit := e0.mod.nolimit.keeps still
  have kinds : ∀ y ∈ ps.zip us, scope.names.lookup y.1 = some .local ∨ (scope.names.lookup y.1 = some .cell ∧ ((cellsFrom (s.heap.objs.size + 1) scope.names []).lookup y.1).isSome = true) := by
    rintro ⟨n, v⟩ hy
    have hn := (List.of_mem_zip hy).1
    exact (S.par n hn).elim .inl fun q => .inr ⟨q, PySem.W.cellsFrom_some _ _ _ (.inl q)⟩
  refine codeAny_call_function room.r.depth (inK _ _ lk) rfl S.co S.gen rfl (PySem.W.codeRec_of inK hcd) (bnd _ _ _ _ ?_)
  refine wpAny_newFunctionEnv_cells S.kind kinds ?_
  intro env ee s1 inc
  subst ee
  refine ⟨noLim.keeps inc.toInCall.keep, codeAny_func ?_⟩
  obtain ⟨t, pt, tq⟩ := hb cdv A outer s H vs Q E ⟨room.r.deeper _, guards_deeper room.g⟩ ⟨hcd, rfl⟩ wish
  have start_ok := inv_start (CX := CX) (E := E) (qual := qual) (f := f) (cd := cdv) S room.r.hd e0 lenv rel inc
  refine wpAny_mono (pt.run [] s1 (start N vs) H _ start_ok tq) ?_ fun e s' z => z
  intro fl s' z
  cases fl with
  | next =>
    obtain ⟨σ', H', J, q⟩ := z
    exact ⟨V.non, H', J.os, J.bare, J.base, J.hok, rfl, q⟩
  | ret u =>
    obtain ⟨v, σ', H', J, rv, q⟩ := z
    exact ⟨v, H', J.os, J.bare, J.base, J.hok, rv, q⟩
  | brk =>
    obtain ⟨_, _, _, q⟩ := z
    cases q
  | cont =>
    obtain ⟨_, _, _, q⟩ := z
    cases q
theorem fng_of {x qual : Str} {params : Arguments} {body : List Stmt} {scope : Scope} {dvs : List V} {kws : List (Str × V)} (F : FunD K x qual params body scope dvs kws f fd) (S : FnScope N ps scope)
    (len : ∀ vs H Q E, sp vs H Q E → vs.length = ps.length)
    (hb : ∀ (cdv : Value) (A : Around) (outer : List Env) (s : Shared) (H : Hp) (vs : List V) (Q : VK) (E : XK), RoomG k (A.deeper (envOfC qual scope s.heap.objs.size f cdv)) → sp vs H Q E →
      ∃ t, PSs (cxOf CX P w K mg base N qual scope f cdv A outer s H E) body t ∧ t { nx := fun _ H' => Q .non H', rt := Q } (start N vs) H) : FnG P w K mg base CX (k + 1) f fd ps sp :=
  fng_ofC F S len fun cdv A outer s H vs Q E room _ => hb cdv A outer s H vs Q E room
end

section
variable {X : Cx} {CX : CXT} {k : Nat} {f : Addr} {fd : FuncData} {ps ks : List Str} {sp : Sp} {dvs : List V} {ds : List Value} {E : XK} {x : Str} {p pos : Pos} {e : Expr} {es : List Expr} {kws : List Keyword} {t tk : TA}
theorem wish_of {pins : List (Addr × Obj)} {σ : L2.St} {H : Hp} {s : Shared} {Q : VK} (hx : Passes CX X E) (I : Inv X pins σ H s) {r : Result} {s' : Shared} (h : CR CX X.stack X.prog X.w H s Q E r s') :
    match r with
    | .ok (.ret u) => EP X pins σ Q u s'
    | .ok _ => False
    | .error e => X.xe e s' := by
  cases r with
  | error e => exact hx pins σ H s e s' I h
  | ok fl =>
    cases fl with
    | ret u => exact I.after h
    | next => exact h
    | brk => exact h
    | cont => exact h
theorem run_g {pins : List (Addr × Obj)} {σ : L2.St} {H : Hp} {s : Shared} {Q : VK} {us : List Value} {vs : List V} (G : FnG X.prog X.w X.K X.mg X.base CX k f fd ps sp) (hr : RoomG k X.A) (hb : Binds X.K fd ps ds) (hd : Vals dvs ds) (hx : Passes CX X E)
    (I : Inv X pins σ H s) (r : Vals vs us) (h : sp (vs ++ dvs) H Q E) : wpAny (model X.prog X.w) X.A (call (.ref f) us) (EP X pins σ Q) X.xe s := by
  have rr : Vals (vs ++ dvs) (us ++ ds) := r.append hd
  have hl : (us ++ ds).length = ps.length := rr.length.symm.trans (G.len _ _ _ _ h)
  refine wpAny_call (codeAny_mono (G.run X.A X.stack s H ⟨us, []⟩ (us ++ ds) (vs ++ dvs) Q E hr I.env0 (hb s us I.kIn hl) rr h) fun r s' hq => ?_)
  have z := wish_of hx I hq
  cases r with
  | error e => exact z
  | ok fl => cases fl <;> exact z
theorem pe_callG (G : FnG X.prog X.w X.K X.mg X.base CX k f fd ps sp) (hr : RoomG k X.A) (hg : Gl X x) (hm : X.mg x = some (.ref f)) (hk : PySem.W.keepIn X.K (.ref f) = true) (hb : Binds X.K fd ps ds) (hd : Vals dvs ds) (hx : Passes CX X E)
    (ha : PA X (e :: es) t) (hdb : (x == ("__debug__" : Str)) = false := by decide) (he : starEach (e :: es) X.env = (false, eval e X.env) :: starEach es X.env := by rfl) (hpl : (backTo pos (starEach es X.env)).any (·.1) = false := by rfl) :
    PE X (.Call (.Name x p) (e :: es) [] pos) (tCall sp dvs E t) := ⟨fun pins s σ H Q I h =>
  wpAny_Call_Name_kw (ld_glob I hg hm (PySem.W.callWith_K (h₀ := X.base) I.ok.mod.kin hk (thn (ha.run pos pins s σ H _ I h) fun us s1 ⟨vs, H1, I1, r, q⟩ => ⟨I1.kIn, run_g G hr hb hd hx I1 r q⟩) he hpl) hdb)⟩
/-- keywords: all parameters, or some behind positional ones -/
theorem run_gk {pins : List (Addr × Obj)} {σ : L2.St} {H : Hp} {s : Shared} {Q : VK} {us ws : List Value} {vs zs : List V} {g : List Value → List Value → List Value} {gV : List V → List V → List V} (G : FnG X.prog X.w X.K X.mg X.base CX k f fd ps sp) (hr : RoomG k X.A) (hb : KBinds X.K fd ps ks g gV) (hx : Passes CX X E)
    (I : Inv X pins σ H s) (r : Vals vs us) (rz : Vals zs ws) (h : sp (gV vs zs) H Q E) : wpAny (model X.prog X.w) X.A (call (.ref f) us (ks.zip ws)) (EP X pins σ Q) X.xe s := by
  have rr := hb.rel r rz
  have hl : (g us ws).length = ps.length := rr.length.symm.trans (G.len _ _ _ _ h)
  refine wpAny_call (codeAny_mono (G.run X.A X.stack s H ⟨us, ks.zip ws⟩ (g us ws) (gV vs zs) Q E hr I.env0 (hb.to s us ws I.kIn hl) rr h) fun r s' hq => ?_)
  have z := wish_of hx I hq
  cases r with
  | error e => exact z
  | ok fl => cases fl <;> exact z
end

/-! ### promises over data -/
abbrev XT := DX → Prop
abbrev TF := XT → List D → (D → Prop) → Prop
/-- the class of this name -/
def clsAt (K : PySem.W.Frag) (n : Str) : Value := match PySem.W.nsIn K mainGlobals n with
  | some (some v) => v
  | _ => .none
/-- an exception below: its class, its own dict -/
def XRep (K : PySem.W.Frag) (Z : Zn) (N : Addr → Prop) (H : Hp) (x : DX) (c : Value) (od : Option Addr) : Prop :=
  c = clsAt K x.cls ∧ ((x.fs = [] ∧ od = none) ∨ ∃ d vs, od = some d ∧ ¬ N d ∧ H d = some (.xd ((x.fs.map (·.1)).zip vs)) ∧ Reps K Z N H (x.fs.map (·.2)) vs)
structure BOk (K : PySem.W.Frag) (Z : Zn) (B : Addr → Prop) (H : Hp) : Prop where
  deck : DeckOk Z H
  zin : ∀ p, InZ Z p → B p
  all : ∀ p, B p → ∃ o, H p = some o ∧ Kp o
  tb : Z.tabs = tabsOf K
def spD (K : PySem.W.Frag) (n : Nat) (T : TF) : Sp := fun vs H Q E => ∃ (Z : Zn) (B : Addr → Prop) (ds : List D) (Qd : D → Prop) (Ed : DX → Prop), BOk K Z B H ∧ Reps K Z B H ds vs ∧ ds.length = n ∧ T Ed ds Qd ∧
  (∀ v H' d, Ext Z H H' → Rep K Z B H' d v → Qd d → Q v H') ∧ ∀ x c od H', Ext Z H H' → XRep K Z B H' x c od → Ed x → E c od H'
theorem NOk.bok {F : FP} {N : Addr → Prop} {H : Hp} (n : NOk F N H) : BOk F.K F.Z N H := ⟨n.deck, n.z, n.all, n.tb⟩
def startD (n : Nat) (ds : List D) : SE := ds.map Slot.d ++ List.replicate (n - ds.length) .un
theorem start_ok {K : PySem.W.Frag} {Z : Zn} {B : Addr → Prop} {H : Hp} {ds : List D} {vs : List V} {Ed : XW} {N : List Str} (b : BOk K Z B H) (r : Reps K Z B H ds vs) : FOk ⟨K, Z, B, H, Ed, B, H⟩ B (start N vs) H (startD N.length ds) where
  n := ⟨b.deck, .refl, fun _ h => h, b.zin, b.all, fun _ h n => (n h).elim, .refl, b.tb⟩
  len := by simp [L2.start, startD, r.length]
  slot := fun i s h => by
    unfold startD at h
    by_cases hi : i < ds.length
    · rw [List.getElem?_append_left (by simpa using hi), List.getElem?_map] at h
      obtain ⟨d, hd⟩ : ∃ d, ds[i]? = some d := ⟨_, List.getElem?_eq_getElem hi⟩
      rw [hd] at h
      cases h
      obtain ⟨v, h1, h2⟩ := r.get hd
      refine ⟨v, ?_, h2⟩
      unfold L2.start
      rw [List.getElem?_append_left (by simpa [← r.length] using hi), List.getElem?_map, h1]
      rfl
    · rw [List.getElem?_append_right (by simpa using Nat.le_of_not_lt hi), List.getElem?_replicate] at h
      split at h
      · cases h; trivial
      · cases h
  apart := fun i j p xs ys _ h => by
    exfalso
    have : Slot.own xs ∈ startD N.length ds := List.mem_of_getElem? h
    unfold startD at this
    rcases List.mem_append.mp this with q | q
    · obtain ⟨d, _, e⟩ := List.mem_map.mp q; cases e
    · cases (List.mem_replicate.mp q).2
/-- what a def does with data: its body's reading -/
def tfOf (n : Nat) (T : TDS) : TF := fun ξ ds Q => T (fun x _ => ξ x) { nx := fun _ => Q .non, rt := Q } (startD n ds)
section
variable {P : Program} {w : World} {K : PySem.W.Frag} {mg : Str → Option Value} {base : Heap} {k : Nat} {f : Addr} {fd : FuncData} {N ps : List Str}
/-- a def that lets nothing out -/
theorem fng_data {x qual : Str} {params : Arguments} {body : List Stmt} {scope : Scope} {dvs : List V} {kws : List (Str × V)} {T : TDS} (Fd : FunD K x qual params body scope dvs kws f fd) (S : FnScope N ps scope)
    (hb : ∀ (cdv : Value) (A : Around) (outer : List Env) (s : Shared) (H : Hp) (E : XK) (F : FP), F.K = K → F.ex = (fun _ _ => False) → RoomG k (A.deeper (envOfC qual scope s.heap.objs.size f cdv)) →
      PSs (cxOf CX0 P w K mg base N qual scope f cdv A outer s H E).nox body (sD F T)) : FnG P w K mg base CX0 (k + 1) f fd ps (spD K ps.length fun _ ds Q => tfOf N.length T (fun _ => False) ds Q) := by
  refine fng_of Fd S ?_ ?_
  · rintro vs H Q E ⟨Z, B, ds, Qd, Ed, b, r, hl, _⟩
    rw [← r.length, hl]
  · rintro cdv A outer s H vs Q E room ⟨Z, B, ds, Qd, Ed, b, r, hl, hT, hq, _⟩
    refine ⟨_, (hb cdv A outer s H E ⟨K, Z, B, H, fun _ _ => False, B, H⟩ rfl rfl room).nox, ?_⟩
    exact ⟨B, _, _, start_ok b r, hT, ⟨fun N' σ' H' env' f' _ q => hq _ _ _ f'.n.ext rep_non q, fun v H' d e r' q => hq v H' d e r' q, fun _ _ _ _ _ _ q => q.elim, fun _ _ _ _ _ _ q => q.elim⟩⟩
end

/-! ### calls over data -/
section
variable {X : Cx} {F : FP} {k n : Nat} {f : Addr} {fd : FuncData} {ps ks : List Str} {x : Str} {p pos : Pos} {e : Expr} {es : List Expr} {kws : List Keyword} {Tas Tks : TDA} {T : TF}
def dCall (n : Nat) (T : TF) (Ta : TDA) : TDE := fun ξ env Q => Ta ξ env fun ds => ds.length = n ∧ T (fun _ => False) ds Q
theorem tCall_imp (hK : F.K = X.K) : ∀ σ H Q, tD F (dCall n T Tas) σ H Q → tCall (spD X.K n T) [] E0 (tDA F Tas) σ H Q := by
  rintro σ H Q ⟨N, env, Qd, f, hT, k⟩
  refine ⟨N, env, _, f, hT, fun vs H1 ds e1 r1 q1 => ?_⟩
  have n1 := (f.ext' e1).n
  refine ⟨F.Z, N, ds, Qd, _, by rw [← hK]; exact n1.bok, by rw [List.append_nil, ← hK]; exact r1, q1.1, q1.2, fun v H2 d e2 r2 q2 => k v H2 d (e1.trans e2) (by rw [hK]; exact r2) q2, fun _ _ _ _ _ _ z => z⟩
/-- f(e, ..): all parameters, by position -/
theorem d_call (G : FnG X.prog X.w X.K X.mg X.base CX0 k f fd ps (spD X.K n T)) (hK : F.K = X.K) (hr : RoomG k X.A) (hg : Gl X x) (hm : X.mg x = some (.ref f)) (hk : PySem.W.keepIn X.K (.ref f) = true) (hb : Binds X.K fd ps [])
    (ha : PA X (e :: es) (tDA F Tas)) (hdb : (x == ("__debug__" : Str)) = false := by decide) (he : starEach (e :: es) X.env = (false, eval e X.env) :: starEach es X.env := by rfl) (hpl : (backTo pos (starEach es X.env)).any (·.1) = false := by rfl) :
    PE X (.Call (.Name x p) (e :: es) [] pos) (tD F (dCall n T Tas)) :=
  PE.imp (pe_callG G hr hg hm hk hb .nil pass0 ha hdb he hpl) (tCall_imp hK)

/-! ### calls by name -/
theorem PK.imp {t t' : TA} (h : PK X kws t) (hi : ∀ σ H Q, t' σ H Q → t σ H Q) : PK X kws t' := ⟨fun pos pins s σ H Q I hw => h.run pos pins s σ H Q I (hi _ _ _ hw)⟩
theorem dk_nil : PK X [] (tDA F dNil) := PK.imp pk_nil (by
  rintro σ H Q ⟨N, env, Qd, f, hT, k⟩
  exact k [] H [] Ext.refl rfl hT)
theorem dk_cons {nm : Option Str} {kpos : Pos} {Ta : TDE} {Tr : TDA} (ha : PE X e (tD F Ta)) (hr : PK X kws (tDA F Tr)) : PK X (⟨nm, e, kpos⟩ :: kws) (tDA F (dCons Ta Tr)) := PK.imp (pk_cons ha hr) tCons_imp
/-- the values in the parameters' order -/
def perm {α : Type} : List Nat → List α → List α
  | [], _ => []
  | i :: r, l => match l[i]? with
    | some x => x :: perm r l
    | none => perm r l
theorem perm_vals {vs : List V} {us : List Value} (r : Vals vs us) : ∀ idx : List Nat, Vals (perm idx vs) (perm idx us)
  | [] => .nil
  | i :: idx => by
    unfold perm
    cases q : vs[i]? with
    | none => rw [r.none_of q]; exact perm_vals r idx
    | some v =>
      obtain ⟨u, h1, h2⟩ := r.get q
      rw [h1]
      exact .cons h2 (perm_vals r idx)
theorem perm_reps {K : PySem.W.Frag} {Z : Zn} {N : Addr → Prop} {H : Hp} {ds : List D} {vs : List V} (r : Reps K Z N H ds vs) : ∀ idx : List Nat, Reps K Z N H (perm idx ds) (perm idx vs)
  | [] => rfl
  | i :: idx => by
    unfold perm
    cases q : ds[i]? with
    | none =>
      have : vs[i]? = none := by
        rw [List.getElem?_eq_none_iff] at q ⊢
        rw [← r.length]; exact q
      rw [this]; exact perm_reps r idx
    | some d =>
      obtain ⟨v, h1, h2⟩ := r.get q
      rw [h1]
      exact ⟨v, _, rfl, h2, perm_reps r idx⟩
def KB (fd : FuncData) (ps ks : List Str) (idx : List Nat) : Prop := ∀ (s : Shared) (ws : List Value), ws.length = ks.length → BindsTo s fd ⟨[], ks.zip ws⟩ (ps.zip (perm idx ws))
def tCallP (m : Nat) (sp : Sp) (idx : List Nat) (E : XK) (tk : TA) : TE := fun σ H Q => tk σ H fun zs H2 => zs.length = m ∧ sp (perm idx zs) H2 Q E
theorem run_gp {CX : CXT} {sp : Sp} {E : XK} {idx : List Nat} {pins : List (Addr × Obj)} {σ : L2.St} {H : Hp} {s : Shared} {Q : VK} {ws : List Value} {zs : List V} (G : FnG X.prog X.w X.K X.mg X.base CX k f fd ps sp) (hr : RoomG k X.A) (hb : KB fd ps ks idx) (hx : Passes CX X E)
    (I : Inv X pins σ H s) (rz : Vals zs ws) (hl : zs.length = ks.length) (h : sp (perm idx zs) H Q E) : wpAny (model X.prog X.w) X.A (call (.ref f) [] (ks.zip ws)) (EP X pins σ Q) X.xe s := by
  refine wpAny_call (codeAny_mono (G.run X.A X.stack s H ⟨[], ks.zip ws⟩ (perm idx ws) (perm idx zs) Q E hr I.env0 (hb s ws (rz.length.symm.trans hl)) (perm_vals rz idx) h) fun r s' hq => ?_)
  have z := wish_of hx I hq
  cases r with
  | error e => exact z
  | ok fl => cases fl <;> exact z
theorem pe_callP {CX : CXT} {sp : Sp} {E : XK} {idx : List Nat} {tk : TA} (G : FnG X.prog X.w X.K X.mg X.base CX k f fd ps sp) (hr : RoomG k X.A) (hg : Gl X x) (hm : X.mg x = some (.ref f)) (hk : PySem.W.keepIn X.K (.ref f) = true) (hb : KB fd ps ks idx) (hx : Passes CX X E)
    (hkw : PK X kws tk) (hall : (backToKw pos (keywordEach kws X.env)).all (·.1.isSome) = true := by rfl) (hks : (backToKw pos (keywordEach kws X.env)).filterMap (·.1) = ks := by rfl) (hdb : (x == ("__debug__" : Str)) = false := by decide)
    (hpl : ((backTo pos (starEach [] X.env)).any (·.1) || (backToKw pos (keywordEach kws X.env)).any (·.1.isNone)) = false := by rfl) : PE X (.Call (.Name x p) [] kws pos) (tCallP ks.length sp idx E tk) := ⟨fun pins s σ H Q I h => by
  refine wpAny_Call_Name_kw (ld_glob I hg hm (PySem.W.callWith_KW0 (h₀ := X.base) I.ok.mod.kin hk hall ?_ hpl) hdb)
  refine thn (hkw.run pos pins s σ H _ I h) ?_
  rintro ws s2 ⟨zs, H2, I2, rz, l2, q2⟩
  rw [hks]
  exact ⟨I2.kIn, run_gp G hr hb hx I2 rz l2 q2⟩⟩
def dCallK (m n : Nat) (idx : List Nat) (T : TF) (Tk : TDA) : TDE := fun ξ env Q => Tk ξ env fun ds => (ds.length = m ∧ (perm idx ds).length = n) ∧ T (fun _ => False) (perm idx ds) Q
theorem d_callK {idx : List Nat} {m : Nat} (G : FnG X.prog X.w X.K X.mg X.base CX0 k f fd ps (spD X.K n T)) (hK : F.K = X.K) (hr : RoomG k X.A) (hg : Gl X x) (hm : X.mg x = some (.ref f)) (hk : PySem.W.keepIn X.K (.ref f) = true) (hb : KB fd ps ks idx)
    (hkw : PK X kws (tDA F Tks)) (hall : (backToKw pos (keywordEach kws X.env)).all (·.1.isSome) = true := by rfl) (hks : (backToKw pos (keywordEach kws X.env)).filterMap (·.1) = ks := by rfl) (hdb : (x == ("__debug__" : Str)) = false := by decide)
    (hpl : ((backTo pos (starEach [] X.env)).any (·.1) || (backToKw pos (keywordEach kws X.env)).any (·.1.isNone)) = false := by rfl) (hml : ks.length = m := by rfl) : PE X (.Call (.Name x p) [] kws pos) (tD F (dCallK m n idx T Tks)) :=
  PE.imp (pe_callP G hr hg hm hk hb pass0 hkw hall hks hdb hpl) (by
  subst hml
  rintro σ H Q ⟨N, env, Qd, f, hT, k⟩
  refine ⟨N, env, _, f, hT, fun vs H1 ds e1 r1 q1 => ⟨r1.length.symm.trans q1.1.1, ?_⟩⟩
  have n1 := (f.ext' e1).n
  refine ⟨F.Z, N, perm idx ds, Qd, _, by rw [← hK]; exact n1.bok, by rw [← hK]; exact perm_reps r1 idx, q1.1.2, q1.2, fun v H2 d e2 r2 q2 => k v H2 d (e1.trans e2) (by rw [hK]; exact r2) q2, fun _ _ _ _ _ _ z => z⟩)
end

/-! ### comprehensions -/
section
variable {X : Cx} {F : FP}
def wipeD (env : SE) : List Nat → SE
  | [] => env
  | v :: vs => (wipeD env vs).set v .un
theorem FOk.un {N : Addr → Prop} {σ : L2.St} {H : Hp} {env : SE} (f : FOk F N σ H env) (i : Nat) : FOk F N (σ.set i none) H (env.set i .un) where
  n := f.n
  len := by rw [List.length_set, List.length_set]; exact f.len
  slot := fun j s h => by
    by_cases hj : i = j
    · subst hj
      have hl : i < env.length := by
        have := (List.getElem?_eq_some_iff.mp h).1
        rwa [List.length_set] at this
      rw [List.getElem?_set_self hl] at h
      cases h
      trivial
    · rw [List.getElem?_set_ne hj] at h
      rw [List.getElem?_set_ne hj]
      exact f.slot j s h
  apart := fun j k p xs ys hjk h1 h2 h3 h4 => by
    have o : ∀ {j : Nat} {xs : List D}, (env.set i .un)[j]? = some (.own xs) → i ≠ j ∧ env[j]? = some (.own xs) := fun {j xs} h => by
      by_cases hj : i = j
      · subst hj
        have hl : i < env.length := by
          have := (List.getElem?_eq_some_iff.mp h).1
          rwa [List.length_set] at this
        rw [List.getElem?_set_self hl] at h
        cases h
      · rw [List.getElem?_set_ne hj] at h
        exact ⟨hj, h⟩
    obtain ⟨n1, h1⟩ := o h1
    obtain ⟨n2, h2⟩ := o h2
    rw [List.getElem?_set_ne n1] at h3
    rw [List.getElem?_set_ne n2] at h4
    exact f.apart j k p xs ys hjk h1 h2 h3 h4
theorem FOk.wipe {N : Addr → Prop} {σ : L2.St} {H : Hp} {env : SE} (f : FOk F N σ H env) : ∀ vs : List Nat, FOk F N (L2.wipe σ vs) H (wipeD env vs)
  | [] => f
  | v :: vs => (f.wipe vs).un v
/-- another wish -/
theorem FOk.wish {N : Addr → Prop} {σ : L2.St} {H : Hp} {env : SE} (f : FOk F N σ H env) (ex : XW) : FOk { F with ex := ex } N σ H env := ⟨⟨f.n.deck, f.n.ext, f.n.sub, f.n.zin, f.n.all, f.n.new, f.n.gr, f.n.tb⟩, f.len, fun i s h => by
  have q := f.slot i s h
  cases s <;> exact q, f.apart⟩
theorem FOk.unwish {N : Addr → Prop} {σ : L2.St} {H : Hp} {env : SE} {ex : XW} (f : FOk { F with ex := ex } N σ H env) : FOk F N σ H env := ⟨⟨f.n.deck, f.n.ext, f.n.sub, f.n.zin, f.n.all, f.n.new, f.n.gr, f.n.tb⟩, f.len, fun i s h => by
  have q := f.slot i s h
  cases s <;> exact q, f.apart⟩
/-- another list of the def's own comes -/
theorem FOk.with {N : Addr → Prop} {σ : L2.St} {H : Hp} {env : SE} (f : FOk F N σ H env) {p : Addr} {o : HO} (hk : Kp o) (hp : H p = none) (nb : ¬ F.B p) : FOk F (fun q => N q ∨ q = p) σ (upd H p o) env := by
  have e := f.n.lay (o := o) hp
  have f1 := f.ext' e
  have mv : ∀ r u, ¬ N r → Kp u → H r = some u → upd H p o r = some u ∧ ¬ (N r ∨ r = p) := fun r u n k h => by
    have ne := ne_of_none h hp
    exact ⟨by rw [upd_ne ne]; exact h, fun z => z.elim n ne⟩
  refine ⟨⟨f1.n.deck, f1.n.ext, fun q h => .inl (f1.n.sub q h), f1.n.zin, fun q h => ?_, fun q h n => ?_, f.n.gr.trans mv, f.n.tb⟩, f1.len, fun i s h => ?_, f1.apart⟩
  · rcases h with h | rfl
    · exact f1.n.all q h
    · exact ⟨o, upd_same, hk⟩
  · rcases h with h | rfl
    · exact f1.n.new q h n
    · exact f.n.new0 hp
  · have q := f.slot i s h
    cases s with
    | un => trivial
    | raw v => exact q
    | d x =>
      obtain ⟨v, h1, h2⟩ := q
      exact ⟨v, h1, Rep.mono mv x v h2⟩
    | own xs =>
      obtain ⟨r, vs, h1, h2, h3, h4, h5⟩ := q
      exact ⟨r, vs, h1, .inl h2, h3, by rw [upd_ne (ne_of_none h4 hp)]; exact h4, Reps.mono mv xs vs h5⟩
theorem FOk.nb {N : Addr → Prop} {σ : L2.St} {H : Hp} {env : SE} (f : FOk F N σ H env) {p : Addr} (hp : H p = none) : ¬ F.B p := fun z => f.n.fresh hp (f.n.sub p z)
/-- over the items: the target, the test, the element -/
def lcD (G : TDG) (tt : TDT) (te : TDE) (env : SE) : List D → (List D → Prop) → Prop
  | [], Q => Q []
  | d :: ds, Q => G d env fun env' => tt (fun _ _ => False) env' fun b => if b = true then te (fun _ _ => False) env' fun y => lcD G tt te env ds fun ys => Q (y :: ys) else lcD G tt te env ds Q
def dYes : TDT := fun _ _ Q => Q true
theorem dts_nil : PTs X [] (tDT F dYes) := ⟨fun pins s σ H Q I hw => pts_nil.run pins s σ H Q I (by
  obtain ⟨N, env, Qd, f, hT, k⟩ := hw
  exact k _ _ Ext.refl hT)⟩
theorem dts_one {c : Expr} {t : TDT} (h : PT X c (tDT F t)) : PTs X [c] (tDT F t) := pts_one h
end
end DL
set_option Elab.async false
set_option linter.all false
set_option maxRecDepth 100000
namespace DL
open PySem PySem.Spec L2
open PyProof.Rows hiding St
section
variable {X : Cx} {F : FP} {Ta : TDE} {Tas : TDA}
theorem FOk.with' {N : Addr → Prop} {σ : L2.St} {H H' : Hp} {env : SE} (f : FOk F N σ H env) {p : Addr} {o : HO} (hk : Kp o) (hp : H p = none) (e : Ext F.Z H H') (ho : H' p = some o) : FOk F (fun q => N q ∨ q = p) σ H' env := by
  have f1 := f.ext' e
  have mv : ∀ r u, ¬ N r → Kp u → H r = some u → H' r = some u ∧ ¬ (N r ∨ r = p) := fun r u n k h =>
    ⟨e.keep r u (fun z => n (f.n.z r z)) k h, fun z => z.elim n (ne_of_none h hp)⟩
  refine ⟨⟨f1.n.deck, f1.n.ext, fun q h => .inl (f1.n.sub q h), f1.n.zin, fun q h => ?_, fun q h n => ?_, f.n.gr.trans mv, f.n.tb⟩, f1.len, fun i s h => ?_, f1.apart⟩
  · rcases h with h | rfl
    · exact f1.n.all q h
    · exact ⟨o, ho, hk⟩
  · rcases h with h | rfl
    · exact f1.n.new q h n
    · exact f.n.new0 hp
  · have q := f.slot i s h
    cases s with
    | un => trivial
    | raw v => exact q
    | d x =>
      obtain ⟨v, h1, h2⟩ := q
      exact ⟨v, h1, Rep.mono mv x v h2⟩
    | own xs =>
      obtain ⟨r, vs, h1, h2, h3, h4, h5⟩ := q
      exact ⟨r, vs, h1, .inl h2, h3, e.keep r _ (fun z => h3 (f.n.zin r z)) kp_lst h4, Reps.mono mv xs vs h5⟩
/-- what a comprehension has made so far -/
structure LcAt (F : FP) (N : Addr → Prop) (H1 : Hp) (D : Addr) (G : TDG) (tt : TDT) (te : TDE) (env : SE) (all : List DL.D) (Qd : DL.D → Prop) (i : Nat) (H' : Hp) : Prop where
  ext : Ext F.Z H1 H'
  at_ : ∃ (acc : List V) (ds : List DL.D), H' D = some (.lst acc) ∧ acc.length ≤ i ∧ Reps F.K F.Z (fun q => N q ∨ q = D) H' ds acc ∧ lcD G tt te env (all.drop i) fun ys => Qd (.lst (ds ++ ys))
end
end DL
namespace DL
open PySem PySem.Spec L2
open PyProof.Rows hiding St
section
variable {X : Cx} {F : FP} {Ta : TDE} {Tas : TDA} {N : Addr → Prop} {σ : L2.St} {H1 H' : Hp} {env : SE} {A : Addr} {tt : TDT} {te : TDE} {all : List D} {Qd : D → Prop} {j : Nat}
abbrev FP.calm (F : FP) : FP := { F with ex := fun _ _ => False }
theorem lc_start (n : NOk F N H1) (hA : H1 A = none) {G : TDG} (h : lcD G tt te env all fun ys => Qd (.lst ys)) : LcAt F N H1 A G tt te env all Qd 0 (upd H1 A (.lst [])) :=
  ⟨n.lay hA, [], [], upd_same, Nat.le_refl _, rfl, by simpa using h⟩
theorem lc_turn (f : FOk F N σ H1 env) (hA : H1 A = none) (hz : all.length ≤ sizeLine) {i : Nat} {d : D} {x : V} (hd : all[i]? = some d) (r : Rep F.K F.Z N H1 d x) (L : LcAt F N H1 A (dgName j) tt te (wipeD env [j]) all Qd i H') :
    gName j x (L2.wipe σ [j]) H' fun σ2 H2 => L2.wipe σ2 [j] = L2.wipe σ [j] ∧ tDT F.calm tt σ2 H2 fun b H3 =>
      if b = true then tD F.calm te σ2 H3 fun y H4 => ∃ acc, H4 A = some (.lst acc) ∧ acc.length < sizeLine ∧ LcAt F N H1 A (dgName j) tt te (wipeD env [j]) all Qd (i + 1) (upd H4 A (.lst (acc ++ [y]))) else LcAt F N H1 A (dgName j) tt te (wipeD env [j]) all Qd (i + 1) H3 := by
  obtain ⟨ext, acc, ds, h1, h2, h3, h4⟩ := L
  obtain ⟨hi, e⟩ := List.getElem?_eq_some_iff.mp hd
  rw [List.drop_eq_getElem_cons hi, e] at h4
  have f1 : FOk F (fun q => N q ∨ q = A) (L2.wipe σ [j]) H' (wipeD env [j]) := (f.with' kp_lst hA ext h1).wipe [j]
  have mv : ∀ r u, ¬ N r → Kp u → H1 r = some u → H' r = some u ∧ ¬ (N r ∨ r = A) := fun r u n k h => ⟨ext.keep r u (fun z => n (f.n.z r z)) k h, fun z => z.elim n (ne_of_none h hA)⟩
  have r1 : Rep F.K F.Z (fun q => N q ∨ q = A) H' d x := Rep.mono mv d x r
  have nz : ∀ p, InZ F.Z p → p ≠ A := fun p z e => by
    obtain ⟨o, q, _⟩ := f.n.all p (f.n.z p z)
    rw [e, hA] at q; cases q
  refine ⟨by simp [L2.wipe, List.set_set], ?_⟩
  refine ⟨_, _, _, (f1.set j r1).wish _, h4, fun b H3 e3 q3 => ?_⟩
  have x3 := ext.trans e3
  have a3 : H3 A = some (.lst acc) := e3.keep A _ (fun z => nz A z rfl) kp_lst h1
  have f3 := f1.ext' e3
  by_cases hb : b = true
  · subst hb
    rw [if_pos rfl] at q3
    refine iteT ?_
    refine ⟨_, _, _, ((f1.set j r1).ext' e3).wish _, q3, fun y H4 dy e4 ry q4 => ?_⟩
    have a4 : H4 A = some (.lst acc) := e4.keep A _ (fun z => nz A z rfl) kp_lst a3
    have x4 := x3.trans e4
    refine ⟨acc, a4, by omega, ⟨fun p o n k h => ?_, fun dk => ?_⟩, acc ++ [y], ds ++ [dy], upd_same, by simp; omega, ?_, ?_⟩
    · rw [upd_ne (ne_of_none h hA)]
      exact x4.keep p o n k h
    · refine ⟨fun a l ez => ?_, fun p hp => ?_⟩
      · obtain ⟨xs, m, c, k1, k2, k3⟩ := (x4.deck dk).1 a l ez
        exact ⟨xs, m, c, by rw [upd_ne (nz a ⟨a, l, ez, .inl rfl⟩)]; exact k1, by rw [upd_ne (nz l ⟨a, l, ez, .inr rfl⟩)]; exact k2, k3⟩
      · exact tab_upd a4 kp_lst (fun _ h => by cases h) ((x4.deck dk).2 p hp)
    · have mv4 : ∀ r u, ¬ (N r ∨ r = A) → Kp u → H4 r = some u → upd H4 A (.lst (acc ++ [y])) r = some u ∧ ¬ (N r ∨ r = A) := fun r u n _ h => ⟨by rw [upd_ne (fun z => n (.inr z))]; exact h, n⟩
      have h4' : Reps F.K F.Z (fun q => N q ∨ q = A) H4 ds acc := (h3.ext e3 f1.n.z).ext e4 f1.n.z
      exact (Reps.mono mv4 _ _ h4').snoc (Rep.mono mv4 _ _ ry)
    · have : (fun ys => Qd (.lst (ds ++ [dy] ++ ys))) = fun ys => Qd (.lst (ds ++ dy :: ys)) := by
        funext ys; rw [List.append_assoc]; rfl
      rw [this]
      exact q4
  · rw [Bool.not_eq_true] at hb
    subst hb
    rw [if_neg Bool.false_ne_true] at q3
    refine iteF ?_
    exact ⟨x3, acc, ds, a3, by omega, h3.ext e3 f1.n.z, q3⟩
theorem lc_end (f : FOk F N σ H1 env) (hA : H1 A = none) {G : TDG} {H0 : Hp} {Q : VK} (e : Ext F.Z H0 H1) (k : ∀ v H' d, Ext F.Z H0 H' → Rep F.K F.Z N H' d v → Qd d → Q v H') {n : Nat} (hn : all.length = n) (L : LcAt F N H1 A G tt te (wipeD env [j]) all Qd n H') : Q (.ref A) H' := by
  obtain ⟨ext, acc, ds, h1, h2, h3, h4⟩ := L
  rw [← hn, List.drop_length] at h4
  have h4 : Qd (.lst (ds ++ [])) := h4
  rw [List.append_nil] at h4
  exact k _ _ (.lst ds) (e.trans ext) ⟨A, acc, rfl, f.n.fresh hA, h1, h3.less fun p z => .inl z⟩ h4
def dLc (T : TDE) (j : Nat) (tt : TDT) (te : TDE) : TDE := fun ξ env Q => T ξ env fun d => match d with
  | .lst ds => ds.length ≤ sizeLine ∧ lcD (dgName j) tt te (wipeD env [j]) ds fun ys => Q (.lst ys)
  | _ => False
def dLcT (T : TDE) (j : Nat) (tt : TDT) (te : TDE) : TDE := fun ξ env Q => T ξ env fun d => match d with
  | .tup ds => ds.length ≤ sizeLine ∧ lcD (dgName j) tt te (wipeD env [j]) ds fun ys => Q (.lst ys)
  | _ => False
def dLcR (T : TDA) (j : Nat) (tt : TDT) (te : TDE) : TDE := fun ξ env Q => T ξ env fun ds => match ds with
  | [.int n] => (0 ≤ n ∧ n ≤ sizeLine) ∧ lcD (dgName j) tt te (wipeD env [j]) (intsD 0 n.toNat) fun ys => Q (.lst ys)
  | _ => False
theorem lc_imp : ∀ σ H Q, tD F (dLc Ta j tt te) σ H Q → tLc (iList F.K (tD F Ta)) (gName j) (tDT F.calm tt) (tD F.calm te) [j] σ H Q := by
  rintro σ H Q ⟨N, env, Qd, f, hT, k⟩
  refine ⟨N, env, _, f, hT, fun v H1 d e1 r q => ?_⟩
  cases d <;> first | exact q.elim | skip
  rename_i ds
  obtain ⟨a, vs, rfl, na, ra, rs⟩ := r
  have f1 := f.ext' e1
  refine ⟨a, rfl, ⟨vs, SqL.of ra⟩, fun A hA => ?_⟩
  refine lc_list (K := F.K) (a := a) (xs := vs) (fun i H' => LcAt F N H1 A (dgName j) tt te (wipeD env [j]) ds Qd i H') (lc_start f1.n hA q.2) (fun i H' _ L => SqL.of (L.ext.keep a _ (fun z => na (f.n.z a z)) kp_lst ra)) (fun i x H' hx L => ?_) (fun H' L => lc_end f1 hA e1 k rs.length L)
  obtain ⟨d, hd, rd⟩ := rs.getV hx
  exact lc_turn f1 hA q.1 hd rd L
theorem lcT_imp : ∀ σ H Q, tD F (dLcT Ta j tt te) σ H Q → tLc (iTup F.K (tD F Ta)) (gName j) (tDT F.calm tt) (tD F.calm te) [j] σ H Q := by
  rintro σ H Q ⟨N, env, Qd, f, hT, k⟩
  refine ⟨N, env, _, f, hT, fun v H1 d e1 r q => ?_⟩
  cases d <;> first | exact q.elim | skip
  rename_i ds
  obtain ⟨a, vs, rfl, ra, rs⟩ := r
  have f1 := f.ext' e1
  refine ⟨a, rfl, ⟨vs, sqt_of ra⟩, fun A hA => ?_⟩
  refine lc_tup (K := F.K) (a := a) (xs := vs) (fun i H' => LcAt F N H1 A (dgName j) tt te (wipeD env [j]) ds Qd i H') (lc_start f1.n hA q.2) (fun i H' _ L => ?_) (fun i x H' hx L => ?_) (fun H' L => lc_end f1 hA e1 k rs.length L)
  · refine sqt_of (N := N) ?_
    rcases ra with ⟨n, ra⟩ | ra
    · exact .inl ⟨n, L.ext.keep a _ (fun z => n (f.n.z a z)) kp_tup ra⟩
    · exact .inr ra
  obtain ⟨d, hd, rd⟩ := rs.getV hx
  exact lc_turn f1 hA q.1 hd rd L
theorem lcR_imp : ∀ σ H Q, tD F (dLcR Tas j tt te) σ H Q → tLc (iRng1 (tDA F Tas)) (gName j) (tDT F.calm tt) (tD F.calm te) [j] σ H Q := by
  rintro σ H Q ⟨N, env, Qd, f, hT, k⟩
  refine ⟨N, env, _, f, hT, fun vs H1 ds e1 r q => ?_⟩
  split at q
  · rename_i n
    obtain ⟨v, _, rfl, r1, r2⟩ := r
    cases r2
    have f1 := f.ext' e1
    have hs : (sizeLine : Nat) < 2 ^ 62 := by rw [sizeLine_eq]; decide
    refine ⟨n, by rw [show v = _ from r1], by omega, by omega, fun A hA => ?_⟩
    refine lc_range (lo := 0) (n := n.toNat) (fun i H' => LcAt F N H1 A (dgName j) tt te (wipeD env [j]) (intsD 0 n.toNat) Qd i H') (lc_start f1.n hA q.2) (fun i H' hi L => ?_) (fun H' L => lc_end f1 hA e1 k ints_len L)
    exact lc_turn f1 hA (by rw [ints_len]; omega) (ints_get hi) rep_int L
  · exact q.elim
variable {e elt iter a : Expr} {ifs : List Expr} {scope : Scope} {own : List (Str × Nat)} {pos p pos' : Pos} {tg : Expr}
theorem d_lc (hK : F.K = X.K) (hc : X.calm = true) (hN : X.N.Nodup) (hi : PE X iter (tD F Ta)) (ok : BlkOk X.N X.env.scope scope own) (hv : own.map (·.2) = [j])
    (hg : ∀ (s : Shared) (H : Hp) (C : Addr) (cl : List (Str × Addr)) (fp : List Addr), PG (X.blk s H scope (compEnvC scope cl C X.env) fp) tg (gName j)) (ht : ∀ (s : Shared) (H : Hp) (C : Addr) (cl : List (Str × Addr)) (fp : List Addr), PTs (X.blk s H scope (compEnvC scope cl C X.env) fp) ifs (tDT F.calm tt))
    (he : ∀ (s : Shared) (H : Hp) (C : Addr) (cl : List (Str × Addr)) (fp : List Addr), PE (X.blk s H scope (compEnvC scope cl C X.env) fp) elt (tD F.calm te)) (hs : ∀ x, foldedSetIterable iter X.env x = pure x := by intro _; rfl) :
    PE X (.ListComp elt [⟨tg, iter, ifs, 0⟩] scope pos) (tD F (dLc Ta j tt te)) := by
  have z := pe_lc (pos := pos) hc hN (pi_list hi) ok hg ht he hs
  rw [hv] at z
  exact PE.imp z (by rw [← hK]; exact lc_imp)
theorem d_lcT (hK : F.K = X.K) (hc : X.calm = true) (hN : X.N.Nodup) (hi : PE X iter (tD F Ta)) (ok : BlkOk X.N X.env.scope scope own) (hv : own.map (·.2) = [j])
    (hg : ∀ (s : Shared) (H : Hp) (C : Addr) (cl : List (Str × Addr)) (fp : List Addr), PG (X.blk s H scope (compEnvC scope cl C X.env) fp) tg (gName j)) (ht : ∀ (s : Shared) (H : Hp) (C : Addr) (cl : List (Str × Addr)) (fp : List Addr), PTs (X.blk s H scope (compEnvC scope cl C X.env) fp) ifs (tDT F.calm tt))
    (he : ∀ (s : Shared) (H : Hp) (C : Addr) (cl : List (Str × Addr)) (fp : List Addr), PE (X.blk s H scope (compEnvC scope cl C X.env) fp) elt (tD F.calm te)) (hs : ∀ x, foldedSetIterable iter X.env x = pure x := by intro _; rfl) :
    PE X (.ListComp elt [⟨tg, iter, ifs, 0⟩] scope pos) (tD F (dLcT Ta j tt te)) := by
  have z := pe_lc (pos := pos) hc hN (pi_tup hi) ok hg ht he hs
  rw [hv] at z
  exact PE.imp z (by rw [← hK]; exact lcT_imp)
theorem d_lcR (hK : F.K = X.K) (hc : X.calm = true) (hN : X.N.Nodup) (hgl : Gl X "range") (hm : X.mg "range" = none) (ha : PA X [a] (tDA F Tas)) (ok : BlkOk X.N X.env.scope scope own) (hv : own.map (·.2) = [j])
    (hg : ∀ (s : Shared) (H : Hp) (C : Addr) (cl : List (Str × Addr)) (fp : List Addr), PG (X.blk s H scope (compEnvC scope cl C X.env) fp) tg (gName j)) (ht : ∀ (s : Shared) (H : Hp) (C : Addr) (cl : List (Str × Addr)) (fp : List Addr), PTs (X.blk s H scope (compEnvC scope cl C X.env) fp) ifs (tDT F.calm tt))
    (he : ∀ (s : Shared) (H : Hp) (C : Addr) (cl : List (Str × Addr)) (fp : List Addr), PE (X.blk s H scope (compEnvC scope cl C X.env) fp) elt (tD F.calm te)) (hsa : starEach [a] X.env = [(false, eval a X.env)] := by rfl) (hs : ∀ x, foldedSetIterable (.Call (.Name "range" p) [a] [] pos') X.env x = pure x := by intro _; rfl) :
    PE X (.ListComp elt [⟨tg, .Call (.Name "range" p) [a] [] pos', ifs, 0⟩] scope pos) (tD F (dLcR Tas j tt te)) := by
  have z := pe_lc (pos := pos) hc hN (pi_range1 hgl hm ha hsa) ok hg ht he hs
  rw [hv] at z
  exact PE.imp z lcR_imp
end
end DL
set_option Elab.async false
set_option linter.all false
set_option maxRecDepth 100000
namespace DL
open PySem PySem.Spec L2
open PyProof.Rows hiding St
section
variable {X : Cx} {F : FP} {Ta Tb : TDE} {Tas : TDA} {e a b c : Expr} {es : List Expr} {pos : Pos} {st : Stmt}

theorem PS.or {t u : TS} (h1 : PS X st t) (h2 : PS X st u) : PS X st (fun De σ H => t De σ H ∨ u De σ H) := ⟨fun pins s σ H De I h => h.elim (h1.run pins s σ H De I) (h2.run pins s σ H De I)⟩
theorem PE.or {t u : TE} (h1 : PE X e t) (h2 : PE X e u) : PE X e (fun σ H Q => t σ H Q ∨ u σ H Q) := ⟨fun pins s σ H Q I h => h.elim (h1.run pins s σ H Q I) (h2.run pins s σ H Q I)⟩
/-- for x in name: a list or a tuple -/
def seqD : Option Slot → Option (List D)
  | some (.d (.tup ds)) => some ds
  | some (.d (.lst ds)) => some ds
  | _ => none
def dForV (i : Nat) (G : TDG) (B : TDS) : TDS := fun ξ De env => match seqD env[i]? with
  | some ds => forD G B ξ De ds env
  | none => False
theorem seqD_of {o : Option Slot} {ds : List D} (h : seqD o = some ds) : o = some (.d (.tup ds)) ∨ o = some (.d (.lst ds)) := by
  unfold seqD at h
  split at h
  · cases h; exact .inl rfl
  · cases h; exact .inr rfl
  · cases h
theorem ds_forV {i : Nat} {tg iter : Expr} {body : List Stmt} {G : TDG} {B : TDS} (hK : F.K = X.K) (hp : PassesOwn (model X.prog X.w) X.A X.env X.xe) (hc : X.calm = true) (hi : PE X iter (tVar i)) (hg : PG X tg (gD F G)) (hb : PSs X body (sD F B))
    (hs : ∀ x, foldedSetIterable iter X.env x = pure x := by intro _; rfl) : PS X (.For tg iter body [] pos) (sD F (dForV i G B)) :=
  PS.imp (PS.or (ds_for (pos := pos) hK hp hc (d_var hi) hg hb hs) (ds_forT (pos := pos) hK hp hc (d_var hi) hg hb hs)) (by
  rintro De σ H ⟨N, env, Dd, f, hT, ok⟩
  unfold dForV at hT
  split at hT
  · rename_i ds hd
    rcases seqD_of hd with e | e
    · refine .inr ⟨N, env, Dd, f, ?_, ok⟩
      unfold dForT dVar
      rw [e]
      exact hT
    · refine .inl ⟨N, env, Dd, f, ?_, ok⟩
      unfold dFor dVar
      rw [e]
      exact hT
  · exact hT.elim)
def dLcV (i j : Nat) (tt : TDT) (te : TDE) : TDE := fun ξ env Q => match seqD env[i]? with
  | some ds => ds.length ≤ sizeLine ∧ lcD (dgName j) tt te (wipeD env [j]) ds fun ys => Q (.lst ys)
  | none => False
theorem d_lcV {i j : Nat} {tt : TDT} {te : TDE} {elt iter tg : Expr} {ifs : List Expr} {scope : Scope} {own : List (Str × Nat)} (hK : F.K = X.K) (hc : X.calm = true) (hN : X.N.Nodup) (hi : PE X iter (tVar i)) (ok : BlkOk X.N X.env.scope scope own) (hv : own.map (·.2) = [j])
    (hg : ∀ (s : Shared) (H : Hp) (C : Addr) (cl : List (Str × Addr)) (fp : List Addr), PG (X.blk s H scope (compEnvC scope cl C X.env) fp) tg (gName j)) (ht : ∀ (s : Shared) (H : Hp) (C : Addr) (cl : List (Str × Addr)) (fp : List Addr), PTs (X.blk s H scope (compEnvC scope cl C X.env) fp) ifs (tDT F.calm tt))
    (he : ∀ (s : Shared) (H : Hp) (C : Addr) (cl : List (Str × Addr)) (fp : List Addr), PE (X.blk s H scope (compEnvC scope cl C X.env) fp) elt (tD F.calm te)) (hs : ∀ x, foldedSetIterable iter X.env x = pure x := by intro _; rfl) :
    PE X (.ListComp elt [⟨tg, iter, ifs, 0⟩] scope pos) (tD F (dLcV i j tt te)) :=
  PE.imp (PE.or (d_lc (pos := pos) hK hc hN (d_var hi) ok hv hg ht he hs) (d_lcT (pos := pos) hK hc hN (d_var hi) ok hv hg ht he hs)) (by
  rintro σ H Q ⟨N, env, Qd, f, hT, k⟩
  unfold dLcV at hT
  split at hT
  · rename_i ds hd
    rcases seqD_of hd with e | e
    · refine .inr ⟨N, env, Qd, f, ?_, k⟩
      unfold dLcT dVar
      rw [e]
      exact hT
    · refine .inl ⟨N, env, Qd, f, ?_, k⟩
      unfold dLc dVar
      rw [e]
      exact hT
  · exact hT.elim)

/-! ### isinstance(x, T) -/
def gIs (T : PyT) : G1 := fun x Q => typed x = true ∧ Q (.bl (isD T x))
theorem d_isi {T : PyT} {p p2 : Pos} {ty : Str} (hK : F.K = X.K) (hg : Gl X "isinstance") (hm : X.mg "isinstance" = none) (hg2 : Gl X ty) (hm2 : X.mg ty = none) (hv2 : bootBuiltins ty = some (.type T.name)) (ha : PE X a (tD F Ta)) (hn2 : ty ≠ "__name__" := by decide) (hd2 : (ty == ("__debug__" : Str)) = false := by decide)
    (he : starEach [a, .Name ty p2] X.env = (false, eval a X.env) :: starEach [.Name ty p2] X.env := by rfl) (he2 : starEach [.Name ty p2] X.env = (false, eval (.Name ty p2) X.env) :: starEach [] X.env := by rfl) (hpl : (backTo pos (starEach [.Name ty p2] X.env)).any (·.1) = false := by rfl) :
    PE X (.Call (.Name "isinstance" p) [a, .Name ty p2] [] pos) (tD F (dUn (gIs T) Ta)) :=
  PE.imp (pe_callB call_isi hg hm (by decide +kernel) (pa_cons ha (pa_cons (pe_bltn (v := .ty T.name) hg2 hm2 hv2 rfl hn2 hd2) pa_nil he2) he) (by decide) (by decide) he hpl) (by
  rintro σ H Q ⟨N, env, Qd, f, hT, k⟩
  refine ⟨N, env, _, f, hT, fun v H1 d e1 r q => ?_⟩
  obtain ⟨t, h3, h4⟩ := tyx_of q.1 r
  rw [hK] at h3 h4
  exact ⟨v, _, _, _, _, rfl, .ty _, h3, h4 T, k _ _ _ e1 rep_bl q.2⟩)

/-! ### repr -/
def showOk (d : D) : Prop := plain d = true ∧ (toP d).showable = true ∧ (toP d).hasDict = false ∧ (toP d).depth ≤ 64 ∧ ((toP d).shown).length ≤ sizeLine
def gRepr : GA := fun xs Q => match xs with
  | [d] => showOk d ∧ Q (.str (toP d).shown)
  | _ => False
def rRepr (K : PySem.W.Frag) : List V → Hp → VK → Prop := fun vs H Q => ∃ v d, vs = [v] ∧ Dp K H v d ∧ d.showable = true ∧ d.hasDict = false ∧ d.depth ≤ 64 ∧ d.shown.length ≤ sizeLine ∧ Q (.str d.shown) H
theorem cr_repr (hg : X.A.guards = some []) (hu : X.A.units + 80 < cLine) : CallR X (.builtin "repr") (rRepr X.K) := by
  intro pins s σ H vs us Q I r h
  obtain ⟨v, d, rfl, dp, h1, h2, h3, h4, q⟩ := h
  obtain ⟨u, rfl, rv⟩ := vals1 r
  obtain ⟨as, rd⟩ := Dp.reads I d v u dp rv
  cases rd with
  | none => exact PySem.P.repr_of_none ⟨.str _, H, I.tok _, ⟨_, rfl⟩, q⟩
  | bool b => exact PySem.P.repr_of_bool ⟨.str _, H, I.tok _, ⟨_, rfl⟩, q⟩
  | int i t => exact PySem.P.repr_of_int (of_decide_eq_true h1) ⟨.str _, H, I.tok _, ⟨_, rfl⟩, q⟩
  | str x t => exact PySem.P.repr_of_str ⟨.str _, H, I.tok _, ⟨_, rfl⟩, q⟩ h4
  | list e1 e2 e3 e4 =>
    exact repr_of_reads' (h₀ := s.heap) (.list e1 e2 e3 e4) h1 (fun z => by rw [h2] at z; cases z) hg (by omega) (fun _ _ z => z) (fun h' u tk hk => ⟨.str _, H, I.kept (t' := tk) hk, ⟨_, rfl⟩, q⟩) h4
  | tuple e1 e2 e3 e4 =>
    exact repr_of_reads' (h₀ := s.heap) (.tuple e1 e2 e3 e4) h1 (fun z => by rw [h2] at z; cases z) hg (by omega) (fun _ _ z => z) (fun h' u tk hk => ⟨.str _, H, I.kept (t' := tk) hk, ⟨_, rfl⟩, q⟩) h4
  | dict e1 e2 e3 e4 e5 => cases h2
theorem cd_repr : CallD F (rRepr F.K) gRepr := ⟨by
  intro N H vs ds Qd Q n r h k
  unfold gRepr at h
  split at h
  · rename_i d
    obtain ⟨v, r, rfl, h1, h2⟩ := r
    cases h2
    obtain ⟨⟨p, s1, s2, s3, s4⟩, q⟩ := h
    exact ⟨v, toP d, rfl, Rep.dp d v p h1, s1, s2, s3, s4, k _ _ _ Ext.refl rep_str q⟩
  · exact h.elim⟩
theorem d_repr {p : Pos} (hK : F.K = X.K) (hgd : X.A.guards = some []) (hu : X.A.units + 80 < cLine) (hg : Gl X "repr") (hm : X.mg "repr" = none) (ha : PA X (e :: es) (tDA F Tas))
    (he : starEach (e :: es) X.env = (false, eval e X.env) :: starEach es X.env := by rfl) (hpl : (backTo pos (starEach es X.env)).any (·.1) = false := by rfl) : PE X (.Call (.Name "repr" p) (e :: es) [] pos) (tD F (dCB gRepr Tas)) := by
  have z := cd_repr (F := F)
  rw [hK] at z
  exact d_callB z (cr_repr hgd hu) hg hm (by decide +kernel) ha (by decide) (by decide) he hpl

/-! ### isqrt -/
def gIsqrt : GA := fun xs Q => match xs with
  | [.int i] => (0 ≤ i ∧ i.toNat.log2 < 13500) ∧ ∀ r : Int, 0 ≤ r → r * r ≤ i → i < (r + 1) * (r + 1) → Q (.int r)
  | _ => False
def rIsqrt : List V → Hp → VK → Prop := fun vs H Q => ∃ i : Int, vs = [.int i] ∧ (0 ≤ i ∧ i.toNat.log2 < 13500) ∧ ∀ r : Int, 0 ≤ r → r * r ≤ i → i < (r + 1) * (r + 1) → Q (.int r) H
theorem cr_isqrt : CallR X (.builtin "math.isqrt") rIsqrt := by
  intro pins s σ H vs us Q I r h
  obtain ⟨i, rfl, ⟨h0, h1⟩, q⟩ := h
  obtain ⟨u, rfl, t, rfl⟩ := vals1 r
  have z := PySem.W.mg_run_isqrt i t (by omega) (by omega) (by omega)
  obtain ⟨z1, z2⟩ := Float64.isqrt_spec i.toNat
  refine call_function_meets PySem.W.MGF.kind_isqrt PySem.W.MGF.plain_isqrt PySem.W.MGF.entry_isqrt (PySem.W.MGF.args_isqrt _) z.meets ?_
  refine ⟨.int _, H, I.tok _, ⟨_, rfl⟩, q _ (Int.natCast_nonneg _) ?_ ?_⟩
  · have : ((Float64.isqrt i.toNat * Float64.isqrt i.toNat : Nat) : Int) ≤ (i.toNat : Int) := Int.ofNat_le.mpr z1
    rw [Int.toNat_of_nonneg h0, Int.natCast_mul] at this
    exact this
  · have : ((i.toNat : Nat) : Int) < (((Float64.isqrt i.toNat + 1) * (Float64.isqrt i.toNat + 1) : Nat) : Int) := Int.ofNat_lt.mpr z2
    rw [Int.toNat_of_nonneg h0, Int.natCast_mul] at this
    exact this
theorem cd_isqrt : CallD F rIsqrt gIsqrt := ⟨by
  intro N H vs ds Qd Q n r h k
  unfold gIsqrt at h
  split at h
  · obtain ⟨v, r, rfl, h1, h2⟩ := r
    cases h2
    exact ⟨_, by rw [show v = _ from h1], h.1, fun r h1 h2 h3 => k _ _ _ Ext.refl rep_int (h.2 r h1 h2 h3)⟩
  · exact h.elim⟩
theorem d_callBf {x : Str} {p : Pos} {bid : String} {r : List V → Hp → VK → Prop} {g : GA} (hg' : CallD F r g) (hc : CallR X (.builtin bid) r) (hg : Gl X x) (hm : X.mg x = some (.builtin bid)) (ha : PA X (e :: es) (tDA F Tas)) (hdb : (x == ("__debug__" : Str)) = false := by decide)
    (he : starEach (e :: es) X.env = (false, eval e X.env) :: starEach es X.env := by rfl) (hpl : (backTo pos (starEach es X.env)).any (·.1) = false := by rfl) : PE X (.Call (.Name x p) (e :: es) [] pos) (tD F (dCB g Tas)) :=
  PE.imp (pe_callBfun hc hg hm ha hdb he hpl) (tCB_imp hg')

/-! ### two or three names at once -/
theorem ds_par {i j : Nat} {x y : Str} {px py pt : Pos} {kt k2 pt2} (hc : X.calm = true) (hN : X.N.Nodup) (hi : X.N[i]? = some x) (hj : X.N[j]? = some y) (hij : i ≠ j)
    (hx : X.env.scope.names.lookup x = some .local) (hy : X.env.scope.names.lookup y = some .local) (ha : PA X [a, b] (tDA F Tas)) (hw : swappedStores [.Tuple [.Name x px, .Name y py] kt pt] (.Tuple [a, b] k2 pt2) X.env = pure (some [x, y]) := by rfl)
    (hs : swapsWithSole [.Tuple [.Name x px, .Name y py] kt pt] (.Tuple [a, b] k2 pt2) pos.line X.env = pure false := by rfl) : PS X (.Assign [.Tuple [.Name x px, .Name y py] kt pt] (.Tuple [a, b] k2 pt2) pos) (sD F (dPar i j Tas)) :=
  PS.imp (ps_par hc hN hi hj hij hx hy ha hw hs) tPar_imp
theorem ds_par3 {i j l : Nat} {x y z : Str} {px py pz pt : Pos} {kt k2 pt2} (hc : X.calm = true) (hN : X.N.Nodup) (hi : X.N[i]? = some x) (hj : X.N[j]? = some y) (hl : X.N[l]? = some z) (hij : i ≠ j) (hil : i ≠ l) (hjl : j ≠ l)
    (hx : X.env.scope.names.lookup x = some .local) (hy : X.env.scope.names.lookup y = some .local) (hz : X.env.scope.names.lookup z = some .local) (ha : PA X [a, b, c] (tDA F Tas))
    (hw : swappedStores [.Tuple [.Name x px, .Name y py, .Name z pz] kt pt] (.Tuple [a, b, c] k2 pt2) X.env = pure (some [x, y, z]) := by rfl)
    (hs : swapsWithSole [.Tuple [.Name x px, .Name y py, .Name z pz] kt pt] (.Tuple [a, b, c] k2 pt2) pos.line X.env = pure false := by rfl) : PS X (.Assign [.Tuple [.Name x px, .Name y py, .Name z pz] kt pt] (.Tuple [a, b, c] k2 pt2) pos) (sD F (dPar3 i j l Tas)) :=
  PS.imp (ps_par3 hc hN hi hj hl hij hil hjl hx hy hz ha hw hs) tPar3_imp
end
theorem kb_of {K : PySem.W.Frag} {x qual : Str} {params : Arguments} {body : List Stmt} {scope : Scope} {kws : List (Str × V)} {f : Addr} {fd : FuncData} {ps ks : List Str} {idx : List Nat} (F : FunD K x qual params body scope [] kws f fd)
    (h : ∀ (kV doc pm : Value) (an : Option Addr) (cdv ct : Value) (ws : List Value), ws.length = ks.length → bindArgs (PySem.W.fnOf x qual params body scope .none kV doc pm an cdv ct) ⟨[], ks.zip ws⟩ = pure (ps.zip (perm idx ws))) : KB fd ps ks idx := by
  obtain ⟨oc, od, dV, kV, doc, pm, an, cdv, ct, osl, rfl, lk, hcd, hD, hK⟩ := F.ex
  rcases hD with ⟨_, rfl⟩ | ⟨e, _⟩
  · exact fun s ws hl => .of_eq (h kV doc pm an cdv ct ws hl)
  · exact absurd rfl e
end DL
set_option Elab.async false
set_option linter.all false
set_option maxRecDepth 100000
namespace DL
open PySem PySem.Spec L2
open PyProof.Rows hiding St

/-! ### a text of nines, and the number that it tells -/
def nine (n : Nat) : Str := ⟨(List.replicate n ((Str.ofString "9").cps)).foldl (· ++ ·) #[]⟩
theorem nine_fold (n : Nat) : ∀ acc : Array Nat, ((List.replicate n ((Str.ofString "9").cps)).foldl (· ++ ·) acc).toList = acc.toList ++ List.replicate n 57 := by
  induction n with
  | zero => intro acc; simp
  | succ n ih =>
    intro acc
    rw [List.replicate_succ, List.foldl_cons, ih]
    have e : (Str.ofString "9").cps = #[57] := by decide +kernel
    rw [e, Array.toList_append, List.append_assoc]
    rfl
theorem nine_cps (n : Nat) : (nine n).cps.toList = List.replicate n 57 := by
  unfold nine
  rw [nine_fold]
  rfl
theorem nine_len (n : Nat) : (nine n).length = n := by
  have : (nine n).cps.size = (nine n).cps.toList.length := Array.length_toList.symm
  show (nine n).cps.size = n
  rw [this, nine_cps, List.length_replicate]
open NumText in
theorem nines_digits (n : Nat) : ∀ (acc : Array Nat) (b : Bool), (List.replicate (n + 1) 57).foldlM (step 10) (acc, b) = some (acc ++ (List.replicate (n + 1) 9).toArray, true) := by
  induction n with
  | zero =>
    intro acc b
    have e : step 10 (acc, b) 57 = some (acc.push 9, true) := rfl
    rw [List.replicate_succ, List.foldlM_cons, e]
    simp
  | succ n ih =>
    intro acc b
    have e : step 10 (acc, b) 57 = some (acc.push 9, true) := rfl
    rw [List.replicate_succ, List.foldlM_cons, e]
    show (List.replicate (n + 1) 57).foldlM (step 10) (acc.push 9, true) = _
    rw [ih]
    congr 2
    rw [List.replicate_succ (n := n + 1)]
    apply Array.ext'
    simp
theorem nines_value (n : Nat) : ∀ acc : Nat, (List.replicate n 9).foldl (fun acc d => acc * 10 + d) acc + 1 = (acc + 1) * 10 ^ n := by
  induction n with
  | zero => intro acc; simp
  | succ n ih =>
    intro acc
    rw [List.replicate_succ, List.foldl_cons, ih, Nat.pow_succ]
    rw [Nat.mul_comm (10 ^ n) 10, ← Nat.mul_assoc]
    congr 1
    omega
open NumText in
theorem nine_int (n : Nat) (h : n + 1 ≤ 4300) : intText? (nine (n + 1)) = some ((10 : Int) ^ (n + 1) - 1) := by
  have hall : ((nine (n + 1)).cps.all (· < 128)) = true := by
    rw [← Array.all_toList, nine_cps, List.all_eq_true]
    intro x hx
    rw [(List.mem_replicate.mp hx).2]
    rfl
  have e1 : numTextOf (nine (n + 1)) = List.replicate (n + 1) 57 := by
    unfold numTextOf
    rw [if_pos hall, nine_cps]
  have e2 : numSeenOf (nine (n + 1)) = List.replicate (n + 1) 57 := by
    unfold numSeenOf
    rw [e1, List.takeWhile_replicate]
    rfl
  have e3 : (List.replicate (n + 1) 57).dropWhile blank = List.replicate (n + 1) 57 := by
    rw [List.replicate_succ, List.dropWhile_cons]
    rfl
  have e4 : sign (List.replicate (n + 1) 57) = (false, List.replicate (n + 1) 57) := by
    rw [List.replicate_succ]
    rfl
  have e5 : core (List.replicate (n + 1) 57) = List.replicate (n + 1) 57 := by
    unfold core
    rw [e3, e4]
    show ((List.replicate (n + 1) 57).reverse.dropWhile blank).reverse = _
    rw [List.reverse_replicate, e3, List.reverse_replicate]
  unfold intText?
  rw [e1, e2, e3, e4, e5]
  rw [if_pos (by simp)]
  have e6 : digits? 10 (List.replicate (n + 1) 57) = some (List.replicate (n + 1) 9).toArray := by
    unfold digits?
    rw [nines_digits]
    simp
  rw [e6]
  show (if (List.replicate (n + 1) 9).toArray.size ≤ 4300 then some (worth false (List.replicate (n + 1) 9).toArray) else none) = _
  rw [if_pos (by simpa using h)]
  congr 1
  unfold worth
  rw [if_neg Bool.false_ne_true]
  have v := nines_value (n + 1) 0
  rw [List.foldl_toArray]
  have : ((List.replicate (n + 1) 9).foldl (fun acc d => acc * 10 + d) 0 : Nat) = 10 ^ (n + 1) - 1 := by omega
  rw [this]
  have p : 1 ≤ 10 ^ (n + 1) := Nat.one_le_pow _ _ (by decide)
  rw [Int.natCast_sub p]
  simp
section
variable {X : Cx} {F : FP} {Ta Tb : TDE} {Tas : TDA} {e a b c : Expr} {es : List Expr} {pos : Pos} {st : Stmt}
def rNine : R2 := fun x y H Q => ∃ n : Int, x = .str "9" ∧ y = .int n ∧ (2 ≤ n ∧ n ≤ 10000) ∧ Q (.str (nine n.toNat)) H
theorem op_nine : OpR X (binaryOp .Mult) rNine := by
  intro pins s σ H x y v u Q I rx ry h
  obtain ⟨n, rfl, rfl, ⟨h1, h2⟩, q⟩ := h
  obtain ⟨t, rfl⟩ := rx
  obtain ⟨t', rfl⟩ := ry
  have l1 : ("9" : Str).length = 1 := by decide +kernel
  have c1 : (n == 1 || ("9" : Str).length == 0) = false := by
    rw [l1]
    have : (n == 1) = false := by rw [beq_eq_false_iff_ne]; omega
    rw [this]; rfl
  refine PySem.P.mul_str ?_ ?_ ?_ ?_
  · rw [decide_eq_false (by omega), decide_eq_false (by omega)]; rfl
  · intro _ _ z
    rw [l1] at z
    have hd : 10000 ≤ (2 ^ 63 - 1) / n := by
      rw [Int.le_ediv_iff_mul_le (by omega)]
      omega
    omega
  · intro _ _
    unfold Builtin.Str.tooLong
    rw [l1, sizeLine_eq]
    exact decide_eq_false (by omega)
  · rw [if_neg (by omega), if_neg (by rw [c1]; exact Bool.false_ne_true)]
    have hl : (nine n.toNat).length ≤ sizeLine := by rw [nine_len, sizeLine_eq]; omega
    exact ⟨hl, ⟨.str (nine n.toNat), H, I.tok _, ⟨_, rfl⟩, q⟩⟩
def gNines : G1 := fun x Q => match x with
  | .int n => (2 ≤ n ∧ n ≤ 640) ∧ Q (.int (10 ^ n.toNat - 1))
  | _ => False
theorem d_nines {k : Nat} {p p1 p2 : Pos} {n : Expr} (hg : Gl X "int") (hm : X.mg "int" = none) (hn : PE X n (tD F Ta)) (he : starEach [.BinOp (.Constant (.str "9") k p1) .Mult n p2] X.env = (false, eval (.BinOp (.Constant (.str "9") k p1) .Mult n p2) X.env) :: starEach [] X.env := by rfl)
    (hpl : (backTo pos (starEach [] X.env)).any (·.1) = false := by rfl) : PE X (.Call (.Name "int" p) [.BinOp (.Constant (.str "9") k p1) .Mult n p2] [] pos) (tD F (dUn gNines Ta)) :=
  PE.imp (pe_callTy call_int_str hg hm (by decide +kernel) (pa_cons (pe_op op_nine pe_str hn) pa_nil he) (by decide) (by decide) he hpl) (by
  rintro σ H Q ⟨N, env, Qd, f, hT, k⟩
  refine ⟨N, env, _, f, hT, fun v H1 d e1 r q => ?_⟩
  cases d <;> first | exact q.elim | skip
  rename_i n
  obtain ⟨⟨h1, h2⟩, q⟩ := q
  refine ⟨n, rfl, r, ⟨h1, by omega⟩, ?_⟩
  obtain ⟨m, hm⟩ : ∃ m, n.toNat = m + 1 := ⟨n.toNat - 1, by omega⟩
  refine ⟨nine n.toNat, _, rfl, ?_, by rw [nine_len]; omega, k _ _ _ e1 rep_int q⟩
  rw [hm]
  exact nine_int m (by omega))
end
end DL
set_option Elab.async false
set_option linter.all false
set_option maxRecDepth 100000
namespace DL
open PySem PySem.Spec L2
open PyProof.Rows hiding St
/-! ### the deck -/
/-- a draw: some number below the given one -/
def tf_draw : TF := fun _ ds Q => match ds with
  | [.deck, .int n] => (0 < n ∧ n < 1000000000) ∧ ∀ r : Int, 0 ≤ r → r < n → Q (.int r)
  | _ => False
theorem draw_reps {K : PySem.W.Frag} {Z : Zn} {B : Addr → Prop} {H : Hp} {ds : List D} {vs : List V} {Qd : D → Prop} (r : Reps K Z B H ds vs) (h : tf_draw (fun _ => False) ds Qd) :
    ∃ a l n, Z.deck = some (a, l) ∧ vs = [.ref a, .int n] ∧ (0 < n ∧ n < 1000000000) ∧ ∀ r : Int, 0 ≤ r → r < n → Qd (.int r) := by
  unfold tf_draw at h
  split at h
  · obtain ⟨v, _, rfl, ⟨a, l, hz, rfl⟩, w, _, rfl, rfl, h4⟩ := r
    cases h4
    exact ⟨a, l, _, hz, rfl, h⟩
  · exact h.elim
theorem kvs_m {l : Addr} {m k : Int} : valV (deckKvs l m k) (.inr ("mixed" : Str)) = some (.int m) := rfl
theorem kvs_l {l : Addr} {m k : Int} : valV (deckKvs l m k) (.inr ("left" : Str)) = some (.ref l) := rfl
theorem kvs_d {l : Addr} {m k : Int} : valV (deckKvs l m k) (.inr ("draws" : Str)) = some (.int k) := rfl
theorem kvs_put {l : Addr} {m k j : Int} : putK (deckKvs l m k) (.inr ("draws" : Str)) (.int j) = deckKvs l m j := rfl
theorem dg_m {H : Hp} {a l : Addr} {m k : Int} (h : H a = some (.dK (deckKvs l m k))) : DGet H a (.str "mixed") (some (.int m)) := kvs_m (l := l) (m := m) (k := k) ▸ DGet.k (k := .inr "mixed") h
theorem dg_l {H : Hp} {a l : Addr} {m k : Int} (h : H a = some (.dK (deckKvs l m k))) : DGet H a (.str "left") (some (.ref l)) := kvs_l (l := l) (m := m) (k := k) ▸ DGet.k (k := .inr "left") h
theorem dg_d {H : Hp} {a l : Addr} {m k : Int} (h : H a = some (.dK (deckKvs l m k))) : DGet H a (.str "draws") (some (.int k)) := kvs_d (l := l) (m := m) (k := k) ▸ DGet.k (k := .inr "draws") h
theorem dp_d {H : Hp} {a l : Addr} {m k j : Int} (h : H a = some (.dK (deckKvs l m k))) : DPut H a (.str "draws") (.int j) (upd H a (.dK (deckKvs l m j))) :=
  kvs_put (l := l) (m := m) (k := k) (j := j) ▸ DPut.k (k := .inr "draws") (v := .int j) h (by rw [sizeLine_eq]; show 3 < _; omega)
/-- the heap behind some steps of a draw -/
structure Dk (a l : Addr) (H H' : Hp) (m k : Int) (xs : List Int) : Prop where
  keep : ∀ p o, p ≠ a → p ≠ l → H p = some o → H' p = some o
  dict : H' a = some (.dK (deckKvs l m k))
  list : H' l = some (.lst (xs.map V.int))
  ne : a ≠ l
  tabs : ∀ P q, LamX.TabS H P q → LamX.TabS H' P q
theorem Dk.ext {a l : Addr} {H H' : Hp} {m k : Int} {xs : List Int} (d : Dk a l H H' m k xs) (h : xs.length ≤ 63) {Z : Zn} (hz : Z.deck = some (a, l)) : Ext Z H H' :=
  ⟨fun p o n _ e => d.keep p o (fun z => n ⟨a, l, hz, .inl z⟩) (fun z => n ⟨a, l, hz, .inr z⟩) e, fun dk => ⟨fun a' l' e => by rw [hz] at e; cases e; exact ⟨xs, m, k, d.dict, d.list, h⟩, fun p hp => d.tabs _ _ (dk.2 p hp)⟩⟩
theorem Dk.new {a l p : Addr} {o : HO} {H H' : Hp} {m k : Int} {xs : List Int} (d : Dk a l H H' m k xs) (hp : H' p = none) : Dk a l H (upd H' p o) m k xs :=
  ⟨fun q u n1 n2 e => by rw [upd_ne (ne_of_none (d.keep q u n1 n2 e) hp)]; exact d.keep q u n1 n2 e, by rw [upd_ne (ne_of_none d.dict hp)]; exact d.dict, by rw [upd_ne (ne_of_none d.list hp)]; exact d.list, d.ne, fun P q t => (d.tabs P q t).ext fun b u e => by rw [upd_ne (ne_of_none e hp)]; exact e⟩
theorem Dk.put {a l : Addr} {H H' : Hp} {m k j : Int} {xs : List Int} (d : Dk a l H H' m k xs) : Dk a l H (upd H' a (.dK (deckKvs l m j))) m j xs :=
  ⟨fun q u n1 n2 e => by rw [upd_ne n1]; exact d.keep q u n1 n2 e, upd_same, by rw [upd_ne d.ne.symm]; exact d.list, d.ne, fun P q t => tab_upd d.dict kp_dk (fun _ h => by cases h) (d.tabs P q t)⟩
theorem Dk.set {a l : Addr} {H H' : Hp} {m k : Int} {xs ys : List Int} (d : Dk a l H H' m k xs) : Dk a l H (upd H' l (.lst (ys.map V.int))) m k ys :=
  ⟨fun q u n1 n2 e => by rw [upd_ne n2]; exact d.keep q u n1 n2 e, by rw [upd_ne d.ne]; exact d.dict, upd_same, d.ne, fun P q t => tab_upd d.list kp_lst (fun _ h => by cases h) (d.tabs P q t)⟩
theorem dp_ints {K : PySem.W.Frag} {H : Hp} : ∀ (xs : List Int), DpAll K H (xs.map V.int) (xs.map PyData.int)
  | [] => .nil
  | x :: xs => .cons (.int x) (dp_ints xs)
theorem shaped_ints (xs : List Int) : SeqAt.shaped (.list (xs.map PyData.int)) = true := by
  have h1 : ∀ xs : List Int, PyData.canLayAll0 (xs.map PyData.int) = true := fun xs => by
    induction xs with
    | nil => rfl
    | cons x xs ih => simpa [PyData.canLayAll0, PyData.canLay0] using ih
  have h2 : ∀ xs : List Int, PyData.depthAll (xs.map PyData.int) ≤ 1 := fun xs => by
    induction xs with
    | nil => simp [PyData.depthAll]
    | cons x xs ih => simp only [List.map_cons, PyData.depthAll, PyData.depth]; omega
  have := h2 xs
  unfold SeqAt.shaped
  rw [Bool.and_eq_true]
  refine ⟨by simpa [PyData.canLay0] using h1 xs, decide_eq_true ?_⟩
  simp only [PyData.depth]
  omega
theorem eqv_ints_nil : ∀ xs : List Int, (!PyData.eqv (.list (xs.map PyData.int)) (.list [])) = !xs.isEmpty
  | [] => rfl
  | x :: xs => rfl
theorem last_of (xs : List Int) : xs = [] ∨ ∃ (ys : List Int) (y : Int), xs = ys ++ [y] := by
  rcases List.eq_nil_or_concat xs with h | ⟨l, b, h⟩
  · exact .inl h
  · exact .inr ⟨l, b, by rw [h, List.concat_eq_append]⟩
end DL
set_option Elab.async false
set_option linter.all false
set_option maxRecDepth 100000
namespace DL
open PySem PySem.Spec L2
open PyProof.Rows hiding St
/-- a new deck, from the script -/
def spDeck (K : PySem.W.Frag) : Sp := fun vs H Q _ => ∃ (s : Addr) (ns : List Int), vs = [.ref s] ∧ SqL K H s (ns.map V.int) ∧ ns.length ≤ 63 ∧
  ∀ (H' : Hp) (a l : Addr) (m : Int) (xs : List Int), (∀ p o, H p = some o → H' p = some o) → H a = none → H l = none → H' a = some (.dK (deckKvs l m 0)) → H' l = some (.lst (xs.map V.int)) → xs.length ≤ 63 → Q (.ref a) H'
theorem merge_deck {l : Addr} {m : Int} : mergeK [] [(.inr ("left" : Str), .ref l), (.inr ("mixed" : Str), .int m), (.inr ("draws" : Str), .int 0)] = deckKvs l m 0 := rfl
theorem PSs.exF {X : Cx} {sts : List Stmt} {P : FP → Prop} {T : TDS} (h : ∀ F : FP, P F → PSs X sts (sD F T)) : PSs X sts (fun De σ H => ∃ F : FP, P F ∧ sD F T De σ H) :=
  ⟨fun pins s σ H De I ⟨F, e, q⟩ => (h F e).run pins s σ H De I q⟩
/-- the law: a deck is made, the rest is data -/
def spLaw (K : PySem.W.Frag) (n : Nat) (T : TDS) : Sp := fun vs H Q _ => ∃ (s : Addr) (ns : List Int), vs = [.ref s] ∧ SqL K H s (ns.map V.int) ∧ ns.length ≤ 63 ∧ LamX.Tabs (tabsOf K) H ∧
  T (fun _ _ => False) { nx := fun _ => False, rt := fun d => d = .bl true } (.un :: .d .deck :: List.replicate n .un) ∧ ∀ H', Q (.bl true) H'
theorem law_rest {K : PySem.W.Frag} {n : Nat} {T : TDS} {H' : Hp} {Q : VK} {a l : Addr} {m : Int} {xs : List Int} {s0 : V} (h0 : H' a = some (.dK (deckKvs l m 0))) (h1 : H' l = some (.lst (xs.map V.int))) (hx : xs.length ≤ 63) (ht : LamX.Tabs (tabsOf K) H')
    (hT : T (fun _ _ => False) { nx := fun _ => False, rt := fun d => d = .bl true } (.un :: .d .deck :: List.replicate n .un)) (k : ∀ H', Q (.bl true) H') :
    ∃ F : FP, (F.K = K ∧ F.ex = fun _ _ => False) ∧ sD F T { nx := fun _ H' => Q .non H', rt := Q } (some s0 :: some (.ref a) :: List.replicate n none) H' := by
  refine ⟨⟨K, ⟨some (a, l), tabsOf K⟩, fun p => p = a ∨ p = l, H', fun _ _ => False, fun p => p = a ∨ p = l, H'⟩, ⟨rfl, rfl⟩, fun p => p = a ∨ p = l, _, _, ⟨⟨⟨?_, ht⟩, .refl, fun _ h => h, ?_, ?_, fun p h n => (n h).elim, .refl, rfl⟩, by simp, ?_, ?_⟩, hT, ⟨fun _ _ _ _ _ _ z => z.elim, fun v H2 d _ r z => ?_, fun _ _ _ _ _ _ z => z.elim, fun _ _ _ _ _ _ z => z.elim⟩⟩
  · intro a' l' e; cases e; exact ⟨xs, m, 0, h0, h1, hx⟩
  · rintro p ⟨a', l', e, z⟩; cases e; exact z
  · rintro p (rfl | rfl)
    · exact ⟨_, h0, kp_dk⟩
    · exact ⟨_, h1, kp_lst⟩
  · intro i s hs
    match i, hs with
    | 0, hs => cases hs; trivial
    | 1, hs => cases hs; exact ⟨.ref a, rfl, a, l, rfl, rfl⟩
    | i + 2, hs =>
      have : s = .un := by
        have := List.mem_of_getElem? (show (List.replicate n Slot.un)[i]? = some s from hs)
        exact (List.mem_replicate.mp this).2
      subst this
      trivial
  · intro i j p xs ys _ h
    match i, h with
    | 0, h => cases h
    | 1, h => cases h
    | i + 2, h =>
      have := List.mem_of_getElem? (show (List.replicate n Slot.un)[i]? = some (.own xs) from h)
      cases (List.mem_replicate.mp this).2
  · have z : d = .bl true := z
    subst z
    rw [show v = .bl true from r]
    exact k H2
theorem _root_.L2.Same.lay {H H1 : Hp} {q : Addr} {o : HO} (s : Same H H1) (hq : H1 q = none) : Same H (upd H1 q o) := fun b u e => by
  rw [upd_ne (ne_of_none (s b u e) hq)]
  exact s b u e
theorem cut_ints (ns : List Int) (lo hi : Option Int) : ∃ ms : List Int, cutV (ns.map V.int) lo hi = ms.map V.int ∧ ms.length ≤ ns.length := by
  refine ⟨(ns.drop (HT.sIx ns.length 0 lo)).take (HT.sIx ns.length ns.length hi - HT.sIx ns.length 0 lo), ?_, ?_⟩
  · unfold cutV
    rw [List.length_map, ← List.map_drop, ← List.map_take]
  · rw [List.length_take, List.length_drop]
    omega
theorem keepU {H : Hp} {p q : Addr} {o u : HO} (h : H p = some u) (hq : H q = none) : upd H q o p = some u := by
  rw [upd_ne (ne_of_none h hq)]
  exact h
end DL
set_option Elab.async false
set_option linter.all false
set_option maxRecDepth 100000
set_option maxHeartbeats 2000000
namespace DL
open PySem PySem.Spec L2
open PyProof.Rows hiding St
section
variable {P : Program} {w : World} {K : PySem.W.Frag} {mg mb : Str → Option Value} {CX : CXT} {k : Nat} {fa a : Addr} {fd : FuncData} {x : Str} {sp : Sp} {s₁ : Shared} {vs : List Value} {ns : List Int}
/-- the abstract heap at the law's call: the script, if it is no object of the module's own -/
def startH (K : PySem.W.Frag) (a : Addr) (vs : List Value) (ns : List Int) : Hp := fun b => match K.lookup a with
  | some _ => none
  | none => if b = a then some (.frz { cls := .type "list", data := .seq vs.toArray } (.lst (ns.map V.int))) else none
theorem startH_at {b : Addr} {u : HO} (h : startH K a vs ns b = some u) : K.lookup a = none ∧ b = a ∧ u = .frz { cls := .type "list", data := .seq vs.toArray } (.lst (ns.map V.int)) := by
  unfold startH at h
  cases q : K.lookup a with
  | some o => rw [q] at h; cases h
  | none =>
    rw [q] at h
    by_cases hb : b = a
    · rw [if_pos hb] at h
      cases h
      exact ⟨rfl, hb, rfl⟩
    · rw [if_neg hb] at h
      cases h
theorem law_callG (KX : K.In s₁.heap) (hns : s₁.heap.Ns mainGlobals mg) (hb : s₁.heap.Ns builtinsNs mb) (hbb : ∀ x : Str, x ≠ "__name__" → mb x = bootBuiltins x) (hlim : s₁.heap.NoLimit) (hg : s₁.gens = #[])
    (ha : s₁.heap.get? a = some { cls := .type "list", data := .seq vs.toArray }) (hi : IntsAre vs ns) (hl : ns.length ≤ sizeLine) (hr : RoomG k callerA)
    (F : ∀ base : Heap, K.In base → base.Ns mainGlobals mg → FnG P w K mg base CX k fa fd [x] sp) (hbind : ∀ (s : Shared) (u : Value), BindsTo s fd ⟨[u], []⟩ [(x, u)])
    (hsp : ∀ H : Hp, SqL K H a (ns.map V.int) → sp [.ref a] H (fun v _ => v = .bl true) fun _ _ _ => False) (hCX : ∀ H e s', CX [] H s₁ (fun _ _ _ => False) e s' → False) :
    codeAny (model P w) callerA (.call (.ref fa) ⟨[.ref a], []⟩) (fun r s' => r = .ok (.ret (.bool true)) ∧ OldK s₁.heap s'.heap ∧ s'.os = s₁.os ∧ AllBare s'.gens) s₁ := by
  have rel := vals_ints hi
  have hlen : ns.length = vs.length := hi.length.symm
  generalize eH : startH K a vs ns = H
  have at_ : ∀ {b : Addr} {u : HO}, H b = some u → K.lookup a = none ∧ b = a ∧ u = .frz { cls := .type "list", data := .seq vs.toArray } (.lst (ns.map V.int)) := fun {b u} h => startH_at (by rw [eH]; exact h)
  have free : ∀ {b : Addr}, b ≠ a → H b = none := fun {b} h => by
    cases q : H b with
    | none => rfl
    | some u => exact absurd (at_ q).2.1 h
  have held : HOk P w H s₁.heap := fun b u e => by
    obtain ⟨_, rfl, rfl⟩ := at_ e
    exact ⟨ha, by rw [List.length_map]; exact hl, vs, _, rel, ha⟩
  have script : SqL K H a (ns.map V.int) := by
    cases q : K.lookup a with
    | none =>
      refine .inl (.inr ⟨{ cls := .type "list", data := .seq vs.toArray }, ?_⟩)
      rw [← eH]
      unfold startH
      rw [q]
      exact if_pos rfl
    | some o =>
      have e := KX a o q
      rw [ha] at e
      cases e
      exact .inr ⟨_, vs.toArray, _, q, rfl, rfl, rfl, by rw [List.size_toArray, ← hlen]; exact hl, by simpa using rel⟩
  have notDict : ∀ {b : Addr} {o : Obj} {es : Array DictEntry} {ep : Nat}, s₁.heap.get? b = some o → o.data = .dict es ep → H b = none := fun {b o es ep} e d => free fun z => by
    subst z
    rw [ha] at e
    cases e
    cases (show Data.seq vs.toArray _ = Data.dict es ep from d)
  have ns' : ∀ {b : Addr} {m : Str → Option Value}, s₁.heap.Ns b m → (hidT s₁.heap H).Ns b m := fun {b m} ⟨o, es, ep, e, d, r⟩ => ⟨o, es, ep, hidT_get e (notDict e d), d, r⟩
  have inK : K.In (hidT s₁.heap H) := fun b o e => hidT_get (KX b o e) (by
    cases q : H b with
    | none => rfl
    | some u =>
      obtain ⟨h1, h2, _⟩ := at_ q
      rw [h2, h1] at e
      cases e)
  obtain ⟨mc, l1, l2⟩ := hlim
  have e0 : Env0 P w K mg (hidT s₁.heap H) callerA [] s₁ H :=
    ⟨rfl, ⟨inK, ns' hns, ⟨mb, ns' hb, hbb⟩, mc, ns' l1, l2⟩, fun b o e => of_hidT e, Nat.le_of_eq (hidT_size _ _), trivial, (fun b h => by cases h), held, .of_eq hg⟩
  refine codeAny_mono ((F _ inK (ns' hns)).run callerA [] s₁ H ⟨[.ref a], []⟩ [.ref a] [.ref a] _ _ hr e0 (hbind s₁ (.ref a)) (.cons rfl .nil) (hsp H script)) ?_
  rintro (e | fl) s' h
  · exact (hCX H e s' h).elim
  cases fl with
  | next => cases h
  | brk => cases h
  | cont => cases h
  | ret u =>
    obtain ⟨v, H', os, bare, un, hok', r', q⟩ := h
    have q' : v = .bl true := q
    subst q'
    obtain rfl : u = Value.bool true := r'
    refine ⟨rfl, OldK.of_keep fun b o e => ?_, os, bare⟩
    cases q : H b with
    | none => exact un.keep b o e q (by intro z; cases z) (by intro z; cases z)
    | some u =>
      obtain ⟨_, rfl, rfl⟩ := at_ q
      obtain ⟨e2, _⟩ := hok' b _ (un.frzs b _ _ q)
      rw [ha] at e
      cases e
      exact e2
end
theorem walk_ofG {l : PySem.W.OpenLaw} {n k : Nat} {q : Program} {loose : List Str} {XP : (Str → Option Value) → Heap → Prop} {YP : World → Heap → Prop} {d : DefRec} {x : Str}
    (hn : l.most = some n) (hn2 : n ≤ sizeLine) (hdf : d.params.defaults = []) (hr : RoomG k callerA)
    (F : ∀ (w : World) (mg : Str → Option Value) (fa : Addr) (h : Heap), YP w h → h.Ns mainGlobals mg → mg d.name = some (.ref fa) →
      ∃ (K : PySem.W.Frag) (fd : FuncData) (sp : Sp), K.In h ∧ (∀ (s : Shared) (u : Value), BindsTo s fd ⟨[u], []⟩ [(x, u)]) ∧
        (∀ (H : Hp) (a : Addr) (ns : List Int), ns.length ≤ n → SqL K H a (ns.map V.int) → sp [.ref a] H (fun v _ => v = .bl true) fun _ _ _ => False) ∧
        ∀ base : Heap, K.In base → base.Ns mainGlobals mg → FnG l.prog w K mg base CX0 k fa fd [x] sp) :
    PySem.W.WalkO q loose XP YP l.row.toRowW d [] (fun f vs => PySem.call f vs) :=
  Att.attach_call hn hdf fun w s₀ s₁ mg mb fa o pm cd doc a vs ns G Y ho hd hcd hmg hobj hints hlen hg =>
    let ⟨_, _, _, KX, hb, hsp, hF⟩ := F w mg fa _ Y G.T.g hmg
    law_callG KX G.T.g G.T.b G.T.builtins G.T.nolimit hg hobj hints (Nat.le_trans hlen hn2) hr hF hb (fun H hS => hsp H a ns hlen hS) fun _ _ _ z => z
/-! ### the head: facts, and some more -/
def obsE (n : Nat) (fa : List He.Fa) (fn : List He.DefD) (ex : PySem.W.Frag → Bool) (g : Addr → Option Obj) : He.AlD × Bool := (He.obsD fa fn (He.frG g (He.asD g n ++ [cStatics])), ex (He.frG g (He.asD g n ++ [cStatics])))
def hookE (n : Nat) (fa : List He.Fa) (fn : List He.DefD) (ex : PySem.W.Frag → Bool) : PySem.W.Hook where
  α := He.AlD × Bool
  obs := fun s => obsE n fa fn ex s.heap.get?
  val := fun _ => (He.valD fn, true)
  says := fun _ h => ∃ K : PySem.W.Frag, K.In h ∧ He.SaysD fa fn K ∧ ex K = true
  of := fun _ _ e => ⟨_, He.frG_in, congrArg (fun z : He.AlD × Bool => z.1) e, congrArg (fun z : He.AlD × Bool => z.2) e⟩
  keeps := fun _ _ _ ⟨K, hK, c⟩ k => ⟨K, PySem.W.Frag.In.keeps hK k, c⟩
theorem obsE_eq {n : Nat} {fa : List He.Fa} {fn : List He.DefD} {ex : PySem.W.Frag → Bool} {g : Addr → Option Obj} {s : Shared} (h : ∀ a, g a = s.heap.get? a) : obsE n fa fn ex g = (hookE n fa fn ex).obs s := by
  have e : g = s.heap.get? := funext h
  rw [e]
  rfl
def bltB (K : PySem.W.Frag) (x : Str) (b : String) : Bool := decide (PySem.W.nsIn K mainGlobals x = some (some (.builtin b)))
theorem blt_ok {K : PySem.W.Frag} {h : Heap} {mg : Str → Option Value} (X : K.In h) (G : h.Ns mainGlobals mg) {x : Str} {b : String} (c : bltB K x b = true) : mg x = some (.builtin b) := PySem.W.mg_of X G (of_decide_eq_true c)
end DL
set_option Elab.async false
set_option linter.all false
set_option maxRecDepth 100000
set_option maxHeartbeats 2000000
/-! exceptions over data: raise, calls that raise, try -/
namespace DL
open PySem PySem.Spec L2
open PyProof.Rows hiding St
/-- what the reading wishes of exceptions is what is wished below -/
def WOk (F : FP) (W : WX) : Prop := ∀ N σ H env x c od, FOk F N σ H env → XRep F.K F.Z N H x c od → F.ex x env → W c od σ H
theorem wok_none {F : FP} (h : F.ex = fun _ _ => False) {W : WX} : WOk F W := fun _ _ _ _ _ _ _ _ _ z => by
  rw [h] at z
  exact z.elim
theorem XRep.less {K : PySem.W.Frag} {Z : Zn} {N N' : Addr → Prop} {H : Hp} {x : DX} {c : Value} {od : Option Addr} (hn : ∀ p, N' p → N p) (h : XRep K Z N H x c od) : XRep K Z N' H x c od := by
  obtain ⟨h1, h2 | ⟨d, vs, e, n, h3, h4⟩⟩ := h
  · exact ⟨h1, .inl h2⟩
  · exact ⟨h1, .inr ⟨d, vs, e, fun z => n (hn d z), h3, h4.less hn⟩⟩
section
variable {P : Program} {w : World} {K : PySem.W.Frag} {mg : Str → Option Value} {base : Heap} {k : Nat} {f : Addr} {fd : FuncData} {N ps : List Str}
/-- a def that may let exceptions out -/
theorem fng_dataX {x qual : Str} {params : Arguments} {body : List Stmt} {scope : Scope} {dvs : List V} {kws : List (Str × V)} {T : TDS} (Fd : FunD K x qual params body scope dvs kws f fd) (S : FnScope N ps scope)
    (hb : ∀ (cdv : Value) (A : Around) (outer : List Env) (s : Shared) (H : Hp) (E : XK) (F : FP), F.K = K → WOk F (fun c od _ H' => E c od H') → RoomG k (A.deeper (envOfC qual scope s.heap.objs.size f cdv)) →
      PSs (cxOf (CX P w) P w K mg base N qual scope f cdv A outer s H E) body (sD F T)) : FnG P w K mg base (CX P w) (k + 1) f fd ps (spD K ps.length fun ξ ds Q => tfOf N.length T ξ ds Q) := by
  refine fng_of Fd S ?_ ?_
  · rintro vs H Q E ⟨Z, B, ds, Qd, Ed, b, r, hl, _⟩
    rw [← r.length, hl]
  · rintro cdv A outer s H vs Q E room ⟨Z, B, ds, Qd, Ed, b, r, hl, hT, hq, he⟩
    refine ⟨_, hb cdv A outer s H E ⟨K, Z, B, H, fun x _ => Ed x, B, H⟩ rfl (fun N' σ H' env x c od f' xr hx => he x c od H' f'.n.ext (xr.less f'.n.sub) hx) room, ?_⟩
    exact ⟨B, _, _, start_ok b r, hT, ⟨fun N' σ' H' env' f' _ q => hq _ _ _ f'.n.ext rep_non q, fun v H' d e r' q => hq v H' d e r' q, fun _ _ _ _ _ _ q => q.elim, fun _ _ _ _ _ _ q => q.elim⟩⟩
end
section
variable {X : Cx} {F : FP} {W : WX} {k n : Nat} {f : Addr} {fd : FuncData} {ps ks : List Str} {x : Str} {p pos : Pos} {e : Expr} {es : List Expr} {kws : List Keyword} {Tas Tks : TDA} {T : TF} {sp : Sp}
/-! ### calls that may raise -/
theorem run_gs {CX : CXT} {E : L2.St → XK} {pins : List (Addr × Obj)} {σ : L2.St} {H : Hp} {s : Shared} {Q : VK} {us : List Value} {vs : List V} {args : Args} (G : FnG X.prog X.w X.K X.mg X.base CX k f fd ps sp) (hr : RoomG k X.A) (hb : BindsTo s fd args (ps.zip us)) (hx : PassesAt CX X σ (E σ))
    (I : Inv X pins σ H s) (r : Vals vs us) (h : sp vs H Q (E σ)) : codeAny (model X.prog X.w) X.A (.call (.ref f) args) (fun r s' => match r with | .ok (.ret u) => EP X pins σ Q u s' | .ok _ => False | .error e => X.xe e s') s := by
  refine codeAny_mono (G.run X.A X.stack s H args us vs Q (E σ) hr I.env0 hb r h) fun r s' hq => ?_
  cases r with
  | error e => exact hx pins H s e s' I hq
  | ok fl =>
    cases fl with
    | ret u => exact I.after hq
    | next => exact hq
    | brk => exact hq
    | cont => exact hq
theorem pe_callGS {CX : CXT} {E : L2.St → XK} {t : TA} (G : FnG X.prog X.w X.K X.mg X.base CX k f fd ps sp) (hr : RoomG k X.A) (hg : Gl X x) (hm : X.mg x = some (.ref f)) (hk : PySem.W.keepIn X.K (.ref f) = true) (hb : Binds X.K fd ps []) (hx : ∀ σ, PassesAt CX X σ (E σ))
    (ha : PA X (e :: es) t) (hdb : (x == ("__debug__" : Str)) = false := by decide) (he : starEach (e :: es) X.env = (false, eval e X.env) :: starEach es X.env := by rfl) (hpl : (backTo pos (starEach es X.env)).any (·.1) = false := by rfl) :
    PE X (.Call (.Name x p) (e :: es) [] pos) (tCallS sp E t) := ⟨fun pins s σ H Q I h =>
  wpAny_Call_Name_kw (ld_glob I hg hm (PySem.W.callWith_K (h₀ := X.base) I.ok.mod.kin hk (thn (ha.run pos pins s σ H _ I h) fun us s1 ⟨vs, H1, I1, r, q⟩ => ⟨I1.kIn, by
    have hl : us.length = ps.length := r.length.symm.trans (G.len _ _ _ _ q)
    have b := hb s1 us I1.kIn (by simpa using hl)
    rw [List.append_nil] at b
    refine wpAny_call (codeAny_mono (run_gs G hr b (hx σ) I1 r q) fun r s' hq => ?_)
    cases r with
    | error e => exact hq
    | ok fl => cases fl <;> exact hq⟩) he hpl) hdb)⟩
def dCallX (n : Nat) (T : TF) (Ta : TDA) : TDE := fun ξ env Q => Ta ξ env fun ds => ds.length = n ∧ T (fun x => ξ x env) ds Q
theorem tCallX_imp (hK : F.K = X.K) (wo : WOk F W) : ∀ σ H Q, tD F (dCallX n T Tas) σ H Q → tCallS (spD X.K n T) (WE W) (tDA F Tas) σ H Q := by
  rintro σ H Q ⟨N, env, Qd, f, hT, k⟩
  refine ⟨N, env, _, f, hT, fun vs H1 ds e1 r1 q1 => ?_⟩
  have f1 := f.ext' e1
  refine ⟨F.Z, N, ds, Qd, _, by rw [← hK]; exact f1.n.bok, by rw [← hK]; exact r1, q1.1, q1.2, fun v H2 d e2 r2 q2 => k v H2 d (e1.trans e2) (by rw [hK]; exact r2) q2, fun x c od H2 e2 xr hx => ?_⟩
  exact wo N σ H2 env x c od (f1.ext' e2) (by rw [hK]; exact xr) hx
theorem d_callX (G : FnG X.prog X.w X.K X.mg X.base (CX X.prog X.w) k f fd ps (spD X.K n T)) (tk : Takes X W) (wo : WOk F W) (hK : F.K = X.K) (hr : RoomG k X.A) (hg : Gl X x) (hm : X.mg x = some (.ref f)) (hk : PySem.W.keepIn X.K (.ref f) = true) (hb : Binds X.K fd ps [])
    (ha : PA X (e :: es) (tDA F Tas)) (hdb : (x == ("__debug__" : Str)) = false := by decide) (he : starEach (e :: es) X.env = (false, eval e X.env) :: starEach es X.env := by rfl) (hpl : (backTo pos (starEach es X.env)).any (·.1) = false := by rfl) :
    PE X (.Call (.Name x p) (e :: es) [] pos) (tD F (dCallX n T Tas)) :=
  PE.imp (pe_callGS G hr hg hm hk hb (fun σ => passAt tk σ) ha hdb he hpl) (tCallX_imp hK wo)
def dCallKX (m n : Nat) (idx : List Nat) (T : TF) (Tk : TDA) : TDE := fun ξ env Q => Tk ξ env fun ds => (ds.length = m ∧ (perm idx ds).length = n) ∧ T (fun x => ξ x env) (perm idx ds) Q
theorem d_callKX {idx : List Nat} {m : Nat} (G : FnG X.prog X.w X.K X.mg X.base (CX X.prog X.w) k f fd ps (spD X.K n T)) (tk : Takes X W) (wo : WOk F W) (hK : F.K = X.K) (hr : RoomG k X.A) (hg : Gl X x) (hm : X.mg x = some (.ref f)) (hk : PySem.W.keepIn X.K (.ref f) = true) (hb : KB fd ps ks idx)
    (hkw : PK X kws (tDA F Tks)) (hall : (backToKw pos (keywordEach kws X.env)).all (·.1.isSome) = true := by rfl) (hks : (backToKw pos (keywordEach kws X.env)).filterMap (·.1) = ks := by rfl) (hdb : (x == ("__debug__" : Str)) = false := by decide)
    (hpl : ((backTo pos (starEach [] X.env)).any (·.1) || (backToKw pos (keywordEach kws X.env)).any (·.1.isNone)) = false := by rfl) (hml : ks.length = m := by rfl) : PE X (.Call (.Name x p) [] kws pos) (tD F (dCallKX m n idx T Tks)) := ⟨fun pins s σ H Q I h => by
  subst hml
  obtain ⟨N, env, Qd, ff, hT, kk⟩ := h
  refine wpAny_Call_Name_kw (ld_glob I hg hm (PySem.W.callWith_KW0 (h₀ := X.base) I.ok.mod.kin hk hall ?_ hpl) hdb)
  refine thn (hkw.run pos pins s σ H (fun zs H2 => ∃ ds, Ext F.Z H H2 ∧ Reps F.K F.Z N H2 ds zs ∧ (ds.length = ks.length ∧ (perm idx ds).length = n) ∧ T (fun x => F.ex x env) (perm idx ds) Qd) I ⟨N, env, _, ff, hT, fun vs H1 ds e1 r1 q1 => ⟨ds, e1, r1, q1.1, q1.2⟩⟩) ?_
  rintro ws s2 ⟨zs, H2, I2, rz, ds, e1, r1, l2, q2⟩
  rw [hks]
  have f1 := ff.ext' e1
  have hl : zs.length = ks.length := r1.length.symm.trans l2.1
  refine ⟨I2.kIn, wpAny_call (codeAny_mono (run_gs (E := WE W) (Q := Q) G hr (hb s2 ws (rz.length.symm.trans hl)) (passAt tk σ) I2 (perm_vals rz idx) ?_) fun r s' hq => ?_)⟩
  · refine ⟨F.Z, N, perm idx ds, Qd, _, by rw [← hK]; exact f1.n.bok, by rw [← hK]; exact perm_reps r1 idx, l2.2, q2, fun v H3 d e2 r2 q => kk v H3 d (e1.trans e2) (by rw [hK]; exact r2) q, fun x c od H3 e2 xr hx => ?_⟩
    exact wo N σ H3 env x c od (f1.ext' e2) (by rw [hK]; exact xr) hx
  · cases r with
    | error e => exact hq
    | ok fl => cases fl <;> exact hq⟩
/-! ### raise X() -/
theorem pmk_bare {C : Addr} {bmB : List Value} {B newId initId : String} (Fb : ExcBaseFacts B newId initId bmB) (q : PySem.W.excIn X.K C bmB newId = true) (gC : X.mg x = some (.ref C)) (kC : PySem.W.keepIn X.K (.ref C) = true) (r : Raises X (.ref C)) (hg : Gl X x)
    (hdb : (x == ("__debug__" : Str)) = false := by decide) : PMk X (.Call (.Name x p) [] [] pos) (fun _ H Q => Q (.ref C) none H) := by
  intro pins s σ H Q I h
  refine wpAny_Call_Name_kw (ld_glob I hg gC ?_ hdb)
  refine PySem.W.callWith_K0 I.kIn kC ?_
  show wpAny _ _ (call (.ref C) []) _ _ _
  obtain ⟨bm, N, nm, qn, bs, hdct, sn, sub, ab, col, dd, k0, k1, k2, k3, k5, mN, hC, hN, hni, T⟩ := exc_obj I.kIn q
  exact wpAny_call_exc_subT Fb T hC hN hni (fun h' e hm => mk_of I hm r h (I.hok.gone hm.new)) (Nat.zero_le _)
def dRaise0 (n : Str) : TDS := fun ξ _ env => ξ ⟨n, []⟩ env
theorem ds_raise0 {C : Addr} {bmB : List Value} {B newId initId : String} {pos' : Pos} (hc : X.calm = true) (tk : Takes X W) (wo : WOk F W) (hK : F.K = X.K) (Fb : ExcBaseFacts B newId initId bmB) (q : PySem.W.excIn X.K C bmB newId = true) (gC : X.mg x = some (.ref C)) (cC : clsAt X.K x = .ref C)
    (kC : PySem.W.keepIn X.K (.ref C) = true) (r : Raises X (.ref C)) (hg : Gl X x) (hdb : (x == ("__debug__" : Str)) = false := by decide) : PS X (.Raise (some (.Call (.Name x p) [] [] pos)) none pos') (sD F (dRaise0 x)) :=
  PS.imp (ps_raise hc tk (pmk_bare Fb q gC kC r hg hdb)) (by
  rintro De σ H ⟨N, env, Dd, f, hT, ok⟩
  exact wo N σ H env ⟨x, []⟩ _ none f ⟨by rw [hK]; exact cC.symm, .inl ⟨rfl, rfl⟩⟩ hT)
end
/-! ### try, one clause without a name -/
theorem FOk.rebase {F : FP} {N : Addr → Prop} {σ : L2.St} {H : Hp} {env : SE} (f : FOk F N σ H env) (ex : XW) : FOk { F with ex := ex, N1 := N, H1 := H } N σ H env := ⟨⟨f.n.deck, f.n.ext, f.n.sub, f.n.zin, f.n.all, f.n.new, .refl, f.n.tb⟩, f.len, fun i s h => by
  have q := f.slot i s h
  cases s <;> exact q, f.apart⟩
theorem FOk.back {F : FP} {N N0 : Addr → Prop} {σ : L2.St} {H H0 : Hp} {env : SE} {ex : XW} (f : FOk { F with ex := ex, N1 := N0, H1 := H0 } N σ H env) (g : Evo F.N1 F.H1 N0 H0) : FOk F N σ H env := ⟨⟨f.n.deck, f.n.ext, f.n.sub, f.n.zin, f.n.all, f.n.new, g.trans f.n.gr, f.n.tb⟩, f.len, fun i s h => by
  have q := f.slot i s h
  cases s <;> exact q, f.apart⟩
def dTry1 (m : Str → Option Bool) (body h : TDS) : TDS := fun ξ De env => body (fun x env' => match m x.cls with
  | some true => h (fun _ _ => False) De env'
  | some false => ξ x env'
  | none => False) De env
theorem PSs.exP {X : Cx} {sts : List Stmt} {α : Sort _} {t : α → TS} (h : ∀ i, PSs X sts (t i)) : PSs X sts (fun De σ H => ∃ i, t i De σ H) := ⟨fun pins s σ H De I ⟨i, q⟩ => (h i).run pins s σ H De I q⟩
theorem PSs.andP {X : Cx} {sts : List Stmt} {p : Prop} {t : TS} (h : p → PSs X sts t) : PSs X sts (fun De σ H => p ∧ t De σ H) := ⟨fun pins s σ H De I ⟨i, q⟩ => (h i).run pins s σ H De I q⟩
theorem ds_try1 {X : Cx} {F : FP} {W : WX} {x : Str} {c : Value} {m : Str → Option Bool} {body suite : List Stmt} {b₀ : Stmt} {np pos pos' : Pos} {Tb Th : TDS} (hK : F.K = X.K) (hs : X.stack = X.env :: X.outer) (hf : X.env.frame = some X.env.locals) (hc : Names X x c) (tk : Takes X W) (wo : WOk F W)
    (hm : ∀ n b, m n = some b → PySem.W.exmOne X.K (clsAt X.K n) c = some b)
    (hb : ∀ (W : WX) (pn : List (Addr × Obj)) (xe : Value → Shared → Prop) (F' : FP), Takes (X.tr pn xe) W → PassesOwn (model X.prog X.w) X.A X.env xe → F'.K = F.K → WOk F' W → PSs (X.tr pn xe) body (sD F' Tb))
    (hsu : ∀ (a : Addr) (pn : List (Addr × Obj)), PSs (X.suite a pn) (b₀ :: suite) (sD F.calm Th)) :
    PS X (.Try body [.ExceptHandler (some (.Name x np)) none (b₀ :: suite) pos'] [] [] pos) (sD F (dTry1 m Tb Th)) := by
  refine PS.imp (ps_try_only (tb := fun W De σ H => ∃ F' : FP, (F'.K = F.K ∧ WOk F' W) ∧ sD F' Tb De σ H) (ts := fun _ _ _ => sD F.calm Th) hs hf hc tk (fun W pn xe t1 p1 => PSs.exP fun F' => PSs.andP fun h => hb W pn xe F' t1 p1 h.1 h.2) fun a oe cls d pn _ _ => hsu a _) ?_
  rintro De σ H ⟨N, env, Dd, f, hT, ok⟩
  have g := f.n.gr
  refine ⟨{ F with ex := _, N1 := N, H1 := H }, ⟨rfl, ?_⟩, N, env, Dd, f.rebase _, hT, ⟨fun N' σ' H' env' f' ev q => ok.nx N' σ' H' env' (f'.back g) ev q, ok.rt, fun N' σ' H' env' f' ev q => ok.bk N' σ' H' env' (f'.back g) ev q, fun N' σ' H' env' f' ev q => ok.ct N' σ' H' env' (f'.back g) ev q⟩⟩
  intro N' σ' H' env' y c' od f' xr hx
  have e := xr.1
  have fb := f'.back g
  have hx : (match m y.cls with
    | some true => Th (fun _ _ => False) Dd env'
    | some false => F.ex y env'
    | none => False) := hx
  cases q : m y.cls with
  | none => rw [q] at hx; exact hx.elim
  | some b =>
    rw [q] at hx
    have em := hm _ _ q
    refine ⟨b, by rw [e]; rw [← hK] at em ⊢; exact em, fun hb1 a _ => ?_, fun hb0 => ?_⟩
    · subst hb1
      have ok' := ok.of f'.n.gr
      exact ⟨N', env', Dd, fb.wish _, hx, ⟨fun N2 σ2 H2 env2 f2 ev q => ok'.nx N2 σ2 H2 env2 f2.unwish ev q, ok'.rt, fun N2 σ2 H2 env2 f2 ev q => ok'.bk N2 σ2 H2 env2 f2.unwish ev q, fun N2 σ2 H2 env2 f2 ev q => ok'.ct N2 σ2 H2 env2 f2.unwish ev q⟩⟩
    · subst hb0
      exact wo N' σ' H' env' y c' od fb xr hx
end DL
set_option Elab.async false
set_option linter.all false
set_option maxRecDepth 100000
set_option maxHeartbeats 2000000
/-! more operators over data -/
namespace DL
open PySem PySem.Spec L2
open PyProof.Rows hiding St
/-! ### gcd of three -/
theorem args_gcd3 (a b c : Value) : argsOk "math.gcd" ⟨[a, b, c], []⟩ := by unfold argsOk; kernel_rfl
theorem gives_gcd3 (a : Int) (t : Tok) (b : Int) (u : Tok) (c : Int) (v : Tok) : Gives (Builtin.«math.gcd» ⟨[.int a t, .int b u, .int c v], []⟩) (.int (((((Nat.gcd 0 a.natAbs).gcd b.natAbs).gcd c.natAbs : Nat) : Int))) :=
  .of_wp fun M A E s Q h => by
    obtain ⟨hp, g, d, tk, os⟩ := s
    wp_walk
    exact ⟨_, rfl, h⟩
def rGcd3 : List V → Hp → VK → Prop := fun vs H Q => ∃ a b c : Int, vs = [.int a, .int b, .int c] ∧ Q (.int (((Nat.gcd a.natAbs b.natAbs).gcd c.natAbs : Nat) : Int)) H
section
variable {X : Cx} {F : FP} {a b c e : Expr} {es : List Expr} {pos : Pos} {Ta Tb Tc : TDE} {Tas : TDA}
theorem cr_gcd3 : CallR X (.builtin "math.gcd") rGcd3 := by
  intro pins s σ H vs us Q I r h
  obtain ⟨a, b, c, rfl, q⟩ := h
  cases r with
  | cons r1 r =>
    obtain ⟨t, rfl⟩ := r1
    obtain ⟨u, v, rfl⟩ := Vals.int2 r
    have g := gives_gcd3 a t b u c v
    rw [Nat.gcd_zero_left] at g
    exact call_function_meets PySem.W.MGF.kind_gcd PySem.W.MGF.plain_gcd PySem.W.MGF.entry_gcd (args_gcd3 _ _ _) g.meets ⟨.int _, H, I.tok _, ⟨_, rfl⟩, q⟩
def gGcd3 : GA := fun xs Q => match xs with
  | [.int a, .int b, .int c] => Q (.int (((Nat.gcd a.natAbs b.natAbs).gcd c.natAbs : Nat) : Int))
  | _ => False
theorem cd_gcd3 : CallD F rGcd3 gGcd3 := ⟨by
  intro N H vs ds Qd Q n r h k
  unfold gGcd3 at h
  split at h
  · obtain ⟨v1, r1, rfl, h1, v2, r2, rfl, h2, v3, r3, rfl, h3, rfl⟩ := r
    cases (show v1 = .int _ from h1)
    cases (show v2 = .int _ from h2)
    cases (show v3 = .int _ from h3)
    exact ⟨_, _, _, rfl, k _ _ _ Ext.refl rep_int h⟩
  · exact h.elim⟩
/-! ### + and * of ints, lists, tuples -/
theorem opd_or {r r' : R2} {g g' g2 : G2} (h : OpD F r g) (h' : OpD F r' g') (e : ∀ x y Q, g2 x y Q → g x y Q ∨ g' x y Q) : OpD F (fun x y H Q => r x y H Q ∨ r' x y H Q) g2 := ⟨fun N H x y dx dy Qd Q n rx ry hg k => (e dx dy Qd hg).elim (fun q => .inl (h.ok N H x y dx dy Qd Q n rx ry q k)) (fun q => .inr (h'.ok N H x y dx dy Qd Q n rx ry q k))⟩
def gCatL : G2 := fun x y Q => match x, y with
  | .lst xs, .lst ys => xs.length + ys.length ≤ sizeLine ∧ Q (.lst (xs ++ ys))
  | _, _ => False
theorem opd_catL : OpD F rCat gCatL := ⟨by
  intro N H x y dx dy Qd Q n rx ry h k
  unfold gCatL at h
  split at h
  · obtain ⟨l, vs, rfl, nl, hl, rl⟩ := rx
    obtain ⟨b, ws, rfl, nb, hb, rb⟩ := ry
    exact ⟨l, b, vs, ws, rfl, rfl, hl, hb, by rw [← rl.length, ← rb.length]; exact h.1, fun p hp => k _ _ _ (n.lay hp) (rep_newL n hp (rl.append rb)) h.2⟩
  · exact h.elim⟩
def gCatT : G2 := fun x y Q => match x, y with
  | .tup xs, .tup ys => xs.length + ys.length ≤ sizeLine ∧ Q (.tup (xs ++ ys))
  | _, _ => False
theorem opd_catT : OpD F (rCatA F.K) gCatT := ⟨by
  intro N H x y dx dy Qd Q n rx ry h k
  unfold gCatT at h
  split at h
  · rename_i xs ys
    have rx0 := rx
    have ry0 := ry
    obtain ⟨l, vs, rfl, hl, rl⟩ := rx
    obtain ⟨b, ws, rfl, hb, rb⟩ := ry
    refine ⟨l, b, vs, ws, rfl, rfl, sqt_of hl, sqt_of hb, by rw [← rl.length, ← rb.length]; exact h.1, fun e => ?_, fun e1 e2 => ?_, fun _ _ p hp => k _ _ _ (n.lay hp) (rep_newT n hp (rl.append rb)) h.2⟩
    · have : xs = [] := List.eq_nil_of_length_eq_zero (by rw [rl.length, e]; rfl)
      subst this
      exact k _ _ _ Ext.refl ry0 h.2
    · have : ys = [] := List.eq_nil_of_length_eq_zero (by rw [rb.length, e2]; rfl)
      subst this
      refine k _ _ _ Ext.refl rx0 ?_
      have z := h.2
      rw [List.append_nil] at z
      exact z
  · exact h.elim⟩
def gAddA : G2 := fun x y Q => match x, y with
  | .int i, .int j => Q (.int (i + j))
  | .lst xs, .lst ys => xs.length + ys.length ≤ sizeLine ∧ Q (.lst (xs ++ ys))
  | .tup xs, .tup ys => xs.length + ys.length ≤ sizeLine ∧ Q (.tup (xs ++ ys))
  | _, _ => False
theorem opd_addA : OpD F (fun x y H Q => rI0 (fun i j => .int (i + j)) x y H Q ∨ (rCat x y H Q ∨ rCatA F.K x y H Q)) gAddA :=
  opd_or (g := gAdd) (g' := fun x y Q => gCatL x y Q ∨ gCatT x y Q) (opd_I0 fun _ _ _ _ => rfl) (opd_or opd_catL opd_catT fun _ _ _ h => h) (by
    intro x y Q h
    unfold gAddA at h
    split at h
    · exact .inl h
    · exact .inr (.inl h)
    · exact .inr (.inr h)
    · exact h.elim)
theorem d_addA (hK : F.K = X.K) (ha : PE X a (tD F Ta)) (hb : PE X b (tD F Tb)) : PE X (.BinOp a .Add b pos) (tD F (dBin gAddA Ta Tb)) := by
  have o := opd_addA (F := F)
  rw [hK] at o
  exact d_op (op_add.or (op_cat.or op_catA)) o ha hb
def gRepL : G2 := fun x y Q => match x, y with
  | .lst xs, .int k => (-(2 ^ 63) ≤ k ∧ k < 2 ^ 63 ∧ xs.length * k.toNat ≤ sizeLine) ∧ Q (.lst (List.replicate k.toNat xs).flatten)
  | _, _ => False
theorem reps_flat {K : PySem.W.Frag} {Z : Zn} {N : Addr → Prop} {H : Hp} {xs : List D} {vs : List V} (r : Reps K Z N H xs vs) : ∀ n, Reps K Z N H (List.replicate n xs).flatten (List.replicate n vs).flatten
  | 0 => rfl
  | n + 1 => by
    rw [List.replicate_succ, List.replicate_succ, List.flatten_cons, List.flatten_cons]
    exact r.append (reps_flat r n)
theorem opd_repL : OpD F rRep gRepL := ⟨by
  intro N H x y dx dy Qd Q n rx ry h k
  unfold gRepL at h
  split at h
  · obtain ⟨l, vs, rfl, nl, hl, rl⟩ := rx
    cases (show y = .int _ from ry)
    exact ⟨l, _, vs, rfl, rfl, hl, h.1.1, h.1.2.1, by rw [← rl.length]; exact h.1.2.2, fun p hp => k _ _ _ (n.lay hp) (rep_newL n hp (reps_flat rl _)) h.2⟩
  · exact h.elim⟩
def gMulA : G2 := fun x y Q => match x, y with
  | .int i, .int j => CMulW i j ∧ Q (.int (i * j))
  | .lst xs, .int k => (-(2 ^ 63) ≤ k ∧ k < 2 ^ 63 ∧ xs.length * k.toNat ≤ sizeLine) ∧ Q (.lst (List.replicate k.toNat xs).flatten)
  | _, _ => False
theorem opd_mulA : OpD F (fun x y H Q => rI CMulW (fun i j => .int (i * j)) x y H Q ∨ rRep x y H Q) gMulA :=
  opd_or (g := gMul) (opd_I fun _ _ _ _ => rfl) opd_repL (by
    intro x y Q h
    unfold gMulA at h
    split at h
    · exact .inl h
    · exact .inr h
    · exact h.elim)
theorem d_mulA (ha : PE X a (tD F Ta)) (hb : PE X b (tD F Tb)) : PE X (.BinOp a .Mult b pos) (tD F (dBin gMulA Ta Tb)) := d_op (op_mulW.or op_rep) opd_mulA ha hb
/-! ### // of great ints, by any divisor but 0 -/
def CDivB (i j : Int) : Prop := j ≠ 0 ∧ i.natAbs.log2 < 13000
theorem near_div {i j : Int} (h : i.natAbs.log2 < 13000) : Builtin.divisionGoesByPylong i j = false := by
  unfold Builtin.divisionGoesByPylong
  have a : (if i == 0 then 0 else i.natAbs.log2 / 30 + 1) ≤ 434 := by split <;> omega
  simp only [Bool.and_eq_false_iff, decide_eq_false_iff_not]
  omega
theorem op_fdivB : OpR X (binaryOp .FloorDiv) (rI CDivB fun i j => .int (i.fdiv j)) := opI fun i j _ _ _ _ _ hc q => floordiv_int hc.1 q (.inl (near_div hc.2))
abbrev gDivB : G2 := gI CDivB fun i j => .int (i.fdiv j)
theorem d_divB (ha : PE X a (tD F Ta)) (hb : PE X b (tD F Tb)) : PE X (.BinOp a .FloorDiv b pos) (tD F (dBin gDivB Ta Tb)) := d_op op_fdivB (opd_I fun _ _ _ _ => rfl) ha hb
end
end DL
set_option Elab.async false
set_option linter.all false
set_option maxRecDepth 100000
set_option maxHeartbeats 2000000
/-! texts of great ints: the digits' limit is the usual one -/
namespace DL
open PySem PySem.Spec L2
open PyProof.Rows hiding St
/-- the limit of digits was never set -/
def NoMax (h : Heap) : Prop := ∃ mc, h.Ns cStatics mc ∧ mc "sys.int_max_str_digits" = none
theorem NoMax.keeps {h h' : Heap} (x : NoMax h) (k : ∀ b o, h.get? b = some o → h'.get? b = some o) : NoMax h' := by
  obtain ⟨mc, ⟨o, es, ep, e, d, r⟩, q⟩ := x
  exact ⟨mc, ⟨o, es, ep, k _ _ e, d, r⟩, q⟩
section
variable {M : Model} {A : Around} {E : Value → Shared → Prop} {s : Shared}
theorem over_none {a : Int} (h : a.natAbs.log2 < 12900) (hn : NoMax s.heap) {Q : Option Nat → Shared → Prop} (q : Q none s) : wpAny M A (Builtin.overDigitLimit? a) Q E s := by
  unfold Builtin.overDigitLimit?
  by_cases h1 : a.natAbs.log2 < 1920
  · rw [if_pos h1]; exact wpAny_pure q
  rw [if_neg h1]
  obtain ⟨mc, hns, hk⟩ := hn
  unfold Builtin.intMaxStrDigits
  refine wpAny_bind (wpAny_bind (wpAny_nsGet hns ?_))
  rw [hk]
  refine wpAny_pure ?_
  have h2 : ¬ (a.natAbs.log2 / 30 + 1 > 1000) := by omega
  have h3 : ((4300 == 0) || decide (a.natAbs.log2 < 3 * 4300)) = true := by
    rw [Bool.or_eq_true]; exact .inr (decide_eq_true (by omega))
  simp only [h2, if_false, h3, if_true]
  exact wpAny_pure q
theorem gives_repr_big (a : Int) (t : Tok) (h : a.natAbs.log2 < 12900) : GivesAt (fun s => NoMax s.heap) (Builtin.«int.__repr__» ⟨[.int a t], []⟩) (.str (toString a)) := by
  intro prog w A R s hn hp
  unfold Builtin.«int.__repr__»
  show wpAny (model prog w) A.in1 (do let r ← Builtin.overDigitLimit? a; _) _ _ s
  refine wpAny_bind (over_none h hn ?_)
  exact (show Gives _ (.str (toString a)) from .of_eq rfl) prog w A R s hp
end
section
variable {prog : Program} {w : World} {A : Around} {E : Value → Shared → Prop} {s : Shared}
theorem big_fits {a : Int} (h : a.natAbs.log2 < 12900) : (Str.ofString (toString a)).length ≤ sizeLine := by
  have e := int_text_length_le (k := 12900) (by decide) h
  rw [PySem.ofString_length, sizeLine_eq]
  omega
theorem reprObj_big {a : Int} {t : Tok} {Q : Value → Shared → Prop} (ha : a.natAbs.log2 < 12900) (hn : NoMax s.heap) (h : Q (.str (toString a) s.toks) { s with toks := s.toks + 1 }) : wpAny (model prog w) A (pyReprObj (.int a t)) Q E s := by
  unfold pyReprObj
  have hv : [Value.int a t].any Value.onHeap = false := rfl
  simp only [cRoomFor, hv, Bool.false_eq_true, if_false, pure_bind]
  refine wpAny_bind (wpAny_specialOf (name := Str.ofString "__repr__") (typeIs_int s a t) F.slot_int_repr.lookup ?_)
  refine wpAny_bind (m := callSpecialIfBound? (.int a t) (Str.ofString "__repr__")) (wpAny_callSpecialIfBound?_slot (name := Str.ofString "__repr__") (typeIs_int s a t) F.slot_int_repr (call_givesAt F.slot_int_repr (typeIs_int s a t) F.entry_int_repr (F.args_int_repr_1 _) (gives_repr_big a t ha) hn ⟨big_fits ha, ?_⟩))
  exact wpAny_bind (wpAny_isInstance (T := "str") (b := true) rfl isSubtype_str_str (wpAny_pure h))
theorem ReprK.big {h₀ : Heap} {a : Int} (t : Tok) (ha : a.natAbs.log2 < 12900) (hn : NoMax h₀) (as : List Addr) (d : Nat) : ReprK prog w as h₀ d (.int a t) (toString a) := fun n hb A _ E s Q _ _ _ hk hQ => by
  have hn' : n ≤ sizeLine := by omega
  rw [pyReprUnder_leaf (v := .int a t) hn' (fun _ e => nomatch e)]
  unfold pyRepr
  exact wpAny_bind (reprObj_big ha (hn.keeps hk) (wpAny_pure (hQ s.heap _ fun _ _ e => e)))
end
/-! ### data without dicts, ints of up to 12900 bits -/
mutual
def bigOk : PyData → Bool
  | .none | .bool _ | .str _ => true
  | .int i => decide (i.natAbs.log2 < 12900)
  | .list xs | .tuple xs => bigOks xs
  | .dict _ => false
def bigOks : List PyData → Bool
  | [] => true
  | x :: xs => bigOk x && bigOks xs
end
section
variable {prog : Program} {w : World} {h₀ : Heap}
theorem ram_cons {n : Nat} {a : Addr} {d : PyData} {as bs : List Addr} {m : Nat} (r : Reads h₀ (.ref a) d as) (h1 : d.depth ≤ m) (h2 : n ≤ m) (hb : ReadAtMost h₀ n bs) : ReadAtMost h₀ m (a :: bs) := by
  intro b q
  cases q with
  | head => exact ⟨_, _, r, h1⟩
  | tail _ q =>
    obtain ⟨e, cs, r', l⟩ := hb b q
    exact ⟨e, cs, r', Nat.le_trans l h2⟩
/-- the text of v is told, whatever else happens -/
def Told (prog : Program) (w : World) (h₀ : Heap) (v : Value) (n : Nat) (t : Str) : Prop := ∃ bs, ReadAtMost h₀ n bs ∧ ReprK prog w bs h₀ n v t
def Tolds (prog : Program) (w : World) (h₀ : Heap) (vs : List Value) (n : Nat) (ts : List Str) : Prop := ∃ bs, ReadAtMost h₀ n bs ∧ ReprAllK prog w bs h₀ n vs ts
theorem Told.flat {v : Value} {n : Nat} {t : Str} (h : ReprK prog w [] h₀ n v t) : Told prog w h₀ v n t := ⟨[], nofun, h⟩
theorem Tolds.nil {n : Nat} : Tolds prog w h₀ [] n [] := ⟨[], nofun, .nil⟩
theorem Tolds.cons {v : Value} {vs : List Value} {n m : Nat} {t : Str} {ts : List Str} (h : Told prog w h₀ v n t) (r : Tolds prog w h₀ vs m ts) : Tolds prog w h₀ (v :: vs) (max n m) (t :: ts) := by
  obtain ⟨b, hb, k⟩ := h
  obtain ⟨c, hc, q⟩ := r
  refine ⟨b ++ c, fun p hp => ?_, .cons ((k.more fun p hp => List.mem_append.mpr (.inl hp)).level_le (Nat.le_max_left n m)) (q.more_le (fun p hp => List.mem_append.mpr (.inr hp)) (Nat.le_max_right n m))⟩
  rcases List.mem_append.mp hp with z | z
  · obtain ⟨e, cs, x, y⟩ := hb p z
    exact ⟨e, cs, x, Nat.le_trans y (Nat.le_max_left n m)⟩
  · obtain ⟨e, cs, x, y⟩ := hc p z
    exact ⟨e, cs, x, Nat.le_trans y (Nat.le_max_right n m)⟩
theorem told_tup {a : Addr} {d : PyData} {xs : List PyData} {as : List Addr} (hd : d = .tuple xs) (r : Reads h₀ (.ref a) d as) (hk : ∀ vs cs, ReadsAll h₀ vs xs cs → Tolds prog w h₀ vs (PyData.depthAll xs) (PyData.shownAll xs)) :
    Told prog w h₀ (.ref a) d.depth d.shown := by
  cases r with
  | tuple h1 h2 h3 h4 =>
    cases hd
    obtain ⟨c, hc, q⟩ := hk _ _ h4
    have dp : (PyData.tuple xs).depth = PyData.depthAll xs + 1 := by simp only [PyData.depth]
    rw [dp, show (PyData.tuple xs).shown = tupleText (PyData.shownAll xs) by simp only [PyData.shown]]
    exact ⟨a :: c, ram_cons (.tuple h1 h2 h3 h4) (Nat.le_of_eq dp) (Nat.le_succ _) hc, ReprK.tuple h1 h2 h3 (not_mem_of_deeper (.tuple h1 h2 h3 h4) (by rw [dp]; exact Nat.lt_succ_self _) hc) q⟩
  | _ => cases hd
theorem told_lst {a : Addr} {d : PyData} {xs : List PyData} {as : List Addr} (hd : d = .list xs) (r : Reads h₀ (.ref a) d as) (hk : ∀ vs cs, ReadsAll h₀ vs xs cs → Tolds prog w h₀ vs (PyData.depthAll xs) (PyData.shownAll xs)) :
    Told prog w h₀ (.ref a) d.depth d.shown := by
  cases r with
  | list h1 h2 h3 h4 =>
    cases hd
    obtain ⟨c, hc, q⟩ := hk _ _ h4
    have dp : (PyData.list xs).depth = PyData.depthAll xs + 1 := by simp only [PyData.depth]
    rw [dp, show (PyData.list xs).shown = listText (PyData.shownAll xs) by simp only [PyData.shown]]
    have na := not_mem_of_deeper (.list h1 h2 h3 h4) (by rw [dp]; exact Nat.lt_succ_self _) hc
    refine ⟨a :: c, ram_cons (.list h1 h2 h3 h4) (Nat.le_of_eq dp) (Nat.le_succ _) hc, ?_⟩
    rename_i o vs n cs
    obtain ⟨l⟩ := vs
    cases l with
    | nil =>
      cases (show ReadsAll h₀ [] xs _ from h4)
      rw [show listText (PyData.shownAll []) = ("[]" : Str) by simp only [PyData.shownAll, listText_nil]]
      exact ReprK.listEmpty h1 h2 h3
    | cons x l => exact ReprK.list h1 h2 h3 na (by simpa using q.length_eq) fun i y e => q.item i y (by simpa using e)
  | _ => cases hd
mutual
theorem told_big (hn : NoMax h₀) : ∀ (d : PyData) {v : Value} {as : List Addr}, Reads h₀ v d as → bigOk d = true → d.shown.length ≤ sizeLine → Told prog w h₀ v d.depth d.shown
  | .none, _, _, r, _, _ => by cases r; rw [show PyData.none.shown = ("None" : Str) by simp only [PyData.shown]]; exact .flat (.of_is .none _ _ _)
  | .bool b, _, _, r, _, _ => by cases r; rw [show (PyData.bool b).shown = ((if b then "True" else "False") : Str) by simp only [PyData.shown]]; exact .flat (.of_is (.bool b) _ _ _)
  | .int i, _, _, r, h, _ => by cases r; rw [show (PyData.int i).shown = toString i by simp only [PyData.shown]]; exact .flat (ReprK.big _ (by simpa [bigOk] using h) hn _ _)
  | .str x, _, _, r, _, z => by cases r; rw [show (PyData.str x).shown = reprText x by simp only [PyData.shown]] at z ⊢; exact .flat (.of_is (.str x _ z) _ _ _)
  | .tuple xs, v, as, r, h, z => by
    rw [show (PyData.tuple xs).shown = tupleText (PyData.shownAll xs) by simp only [PyData.shown]] at z
    have r' := r
    cases r'
    exact told_tup rfl r fun vs cs q => tolds_big hn xs q (by simpa [bigOk] using h) fun t m => Nat.le_trans (tupleText_mem_le m) z
  | .list xs, v, as, r, h, z => by
    rw [show (PyData.list xs).shown = listText (PyData.shownAll xs) by simp only [PyData.shown]] at z
    have r' := r
    cases r'
    exact told_lst rfl r fun vs cs q => tolds_big hn xs q (by simpa [bigOk] using h) fun t m => Nat.le_trans (listText_mem_le m) z
  | .dict _, _, _, _, h, _ => by simp [bigOk] at h
theorem tolds_big (hn : NoMax h₀) : ∀ (ds : List PyData) {vs : List Value} {as : List Addr}, ReadsAll h₀ vs ds as → bigOks ds = true → (∀ t ∈ PyData.shownAll ds, t.length ≤ sizeLine) → Tolds prog w h₀ vs (PyData.depthAll ds) (PyData.shownAll ds)
  | [], _, _, r, _, _ => by cases r; rw [show PyData.shownAll [] = [] by simp only [PyData.shownAll]]; exact .nil
  | d :: ds, _, _, r, h, z => by
    cases r with
    | cons r rs =>
      rw [show PyData.shownAll (d :: ds) = d.shown :: PyData.shownAll ds by simp only [PyData.shownAll]] at z ⊢
      rw [show PyData.depthAll (d :: ds) = max d.depth (PyData.depthAll ds) by simp only [PyData.depthAll]]
      have h' : bigOk d = true ∧ bigOks ds = true := by simpa [bigOks] using h
      exact .cons (told_big hn d r h'.1 (z _ (List.mem_cons_self ..))) (tolds_big hn ds rs h'.2 fun t m => z t (List.mem_cons_of_mem _ m))
end
end
end DL
set_option Elab.async false
set_option linter.all false
set_option maxRecDepth 100000
set_option maxHeartbeats 2000000
namespace DL
open PySem PySem.Spec L2
open PyProof.Rows hiding St
section
variable {prog : Program} {w : World} {h₀ : Heap} {A : Around} {E : Value → Shared → Prop} {s : Shared}
/-- repr of a list or a tuple whose ints are of any usual size -/
theorem repr_seq {a : Addr} {d : PyData} {as : List Addr} {Q : Value → Shared → Prop} (r : Reads s.heap (.ref a) d as) (hn : NoMax s.heap) (hb : bigOk d = true) (hz : d.shown.length ≤ sizeLine) (hg : A.guards = some []) (hu : A.units + (d.depth + 1) < cLine)
    (hQ : ∀ h' u tk, (∀ b o, s.heap.get? b = some o → h'.get? b = some o) → Q (.str d.shown u) { s with heap := h', toks := tk }) : wpAny (model prog w) A (call (.builtin "repr") [.ref a]) Q E s := by
  have hu1 : A.in1.units + d.depth < cLine := by
    show A.units + 1 + d.depth < cLine
    omega
  have r' := r
  cases d with
  | list xs =>
    cases r' with
    | list h1 h2 h3 h4 =>
      rename_i o vs n cs
      have zz : (PyData.list xs).shown = listText (PyData.shownAll xs) := by simp only [PyData.shown]
      have dd : (PyData.list xs).depth = PyData.depthAll xs + 1 := by simp only [PyData.depth]
      rw [zz] at hz hQ
      rw [dd] at hu1
      refine call_repr_slot (T := "list") (by omega) ⟨o, h1, h2⟩ F.slot_list_repr.toG ?_
      obtain ⟨bs, hbs, hk⟩ := tolds_big (prog := prog) (w := w) hn xs h4 (by simpa [bigOk] using hb) fun t m => Nat.le_trans (listText_mem_le m) hz
      obtain ⟨l⟩ := vs
      cases l with
      | nil =>
        cases (show ReadsAll s.heap [] xs _ from h4)
        rw [show listText (PyData.shownAll []) = ("[]" : Str) by simp only [PyData.shownAll, listText_nil]] at hQ
        exact call_list_repr_empty ⟨o, h1, h2⟩ h1 h3 ⟨_, _, rfl, hQ s.heap _ _ fun _ _ e => e⟩
      | cons x l =>
        have na := not_mem_of_deeper r (by rw [dd]; exact Nat.lt_succ_self _) hbs
        exact call_list_reprK h1 h2 h3 na (by simpa using hk.length_eq) (fun i y e => hk.item i y (by simpa using e)) hg (fun b _ => Clear.nil b) hu1 (fun _ _ e => e) (fun h' u tk k => ⟨_, _, rfl, hQ h' u tk k⟩) hz
  | tuple xs =>
    cases r' with
    | tuple h1 h2 h3 h4 =>
      rename_i o vs n
      have zz : (PyData.tuple xs).shown = tupleText (PyData.shownAll xs) := by simp only [PyData.shown]
      have dd : (PyData.tuple xs).depth = PyData.depthAll xs + 1 := by simp only [PyData.depth]
      rw [zz] at hz hQ
      rw [dd] at hu1
      refine call_repr_slot (T := "tuple") (by omega) ⟨_, h1, h2⟩ F.slot_tuple_repr ?_
      obtain ⟨bs, hbs, hk⟩ := tolds_big (prog := prog) (w := w) hn xs h4 (by simpa [bigOk] using hb) fun t m => Nat.le_trans (tupleText_mem_le m) hz
      have na := not_mem_of_deeper r (by rw [dd]; exact Nat.lt_succ_self _) hbs
      exact call_tuple_reprK h1 h2 h3 na hk hg (fun b _ => Clear.nil b) hu1 (fun _ _ e => e) (fun h' u tk k => ⟨_, _, rfl, hQ h' u tk k⟩) hz
  | dict kvs => simp [bigOk] at hb
  | _ => cases r'
end
/-- the module's own facts say that the limit was not set -/
def mxB (K : PySem.W.Frag) : Bool := decide (PySem.W.nsIn K cStatics "sys.int_max_str_digits" = some none)
theorem nomax_of {K : PySem.W.Frag} {h : Heap} (X : K.In h) (hl : h.NoLimit) (c : mxB K = true) : NoMax h := by
  obtain ⟨mc, hn, _⟩ := hl
  exact ⟨mc, hn, PySem.W.ns_none_of X hn (of_decide_eq_true c)⟩
section
variable {X : Cx} {F : FP} {e : Expr} {es : List Expr} {pos : Pos} {Tas : TDA} {pins : List (Addr × Obj)} {σ : L2.St} {H : Hp} {s : Shared}
theorem inv_nomax (I : Inv X pins σ H s) (c : mxB X.K = true) : NoMax s.heap := (nomax_of I.ok.mod.kin I.ok.mod.nolimit c).keeps I.bk
/-- as showOk, of tuples and lists, ints of up to 12900 bits -/
def showB (d : D) : Prop := plain d = true ∧ bigOk (toP d) = true ∧ (toP d).depth ≤ 64 ∧ ((toP d).shown).length ≤ sizeLine
def gReprB : GA := fun xs Q => match xs with
  | [.tup ds] => showB (.tup ds) ∧ Q (.str (toP (.tup ds)).shown)
  | [.lst ds] => showB (.lst ds) ∧ Q (.str (toP (.lst ds)).shown)
  | _ => False
def rReprB (K : PySem.W.Frag) : List V → Hp → VK → Prop := fun vs H Q => ∃ a d, vs = [.ref a] ∧ Dp K H (.ref a) d ∧ bigOk d = true ∧ d.depth ≤ 64 ∧ d.shown.length ≤ sizeLine ∧ Q (.str d.shown) H
theorem cr_reprB (c : mxB X.K = true) (hg : X.A.guards = some []) (hu : X.A.units + 80 < cLine) : CallR X (.builtin "repr") (rReprB X.K) := by
  intro pins s σ H vs us Q I r h
  obtain ⟨a, d, rfl, dp, h1, h3, h4, q⟩ := h
  obtain ⟨u, rfl, rv⟩ := vals1 r
  obtain ⟨as, rd⟩ := Dp.reads I d _ u dp rv
  cases rv
  exact repr_seq rd (inv_nomax I c) h1 h4 hg (by omega) fun h' u tk hk => ⟨.str _, H, I.kept (t' := tk) hk, ⟨_, rfl⟩, q⟩
theorem cd_reprB : CallD F (rReprB F.K) gReprB := ⟨by
  intro N H vs ds Qd Q n r h k
  unfold gReprB at h
  split at h
  · rename_i d
    obtain ⟨v, r, rfl, h1, h2⟩ := r
    cases h2
    obtain ⟨⟨p, s1, s2, s3⟩, q⟩ := h
    have h1' := h1
    obtain ⟨a, vs, rfl, _⟩ := h1'
    exact ⟨a, _, rfl, Rep.dp _ _ p h1, s1, s2, s3, k _ _ _ Ext.refl rep_str q⟩
  · rename_i d
    obtain ⟨v, r, rfl, h1, h2⟩ := r
    cases h2
    obtain ⟨⟨p, s1, s2, s3⟩, q⟩ := h
    have h1' := h1
    obtain ⟨a, vs, rfl, _⟩ := h1'
    exact ⟨a, _, rfl, Rep.dp _ _ p h1, s1, s2, s3, k _ _ _ Ext.refl rep_str q⟩
  · exact h.elim⟩
theorem d_reprB {p : Pos} (hK : F.K = X.K) (c : mxB X.K = true) (hgd : X.A.guards = some []) (hu : X.A.units + 80 < cLine) (hg : Gl X "repr") (hm : X.mg "repr" = none) (ha : PA X (e :: es) (tDA F Tas))
    (he : starEach (e :: es) X.env = (false, eval e X.env) :: starEach es X.env := by rfl) (hpl : (backTo pos (starEach es X.env)).any (·.1) = false := by rfl) : PE X (.Call (.Name "repr" p) (e :: es) [] pos) (tD F (dCB gReprB Tas)) := by
  have z := cd_reprB (F := F)
  rw [hK] at z
  exact d_callB z (cr_reprB c hgd hu) hg hm (by decide +kernel) ha (by decide) (by decide) he hpl
end
end DL
set_option Elab.async false
set_option linter.all false
set_option maxRecDepth 100000
set_option maxHeartbeats 2000000
/-! int of a text of up to 4300 signs -/
namespace DL
open PySem PySem.Spec L2 PySem.NumText
open PyProof.Rows hiding St
section
variable {M : Model} {A : Around} {E : Value → Shared → Prop} {s : Shared}
theorem max_read {Q : Nat → Shared → Prop} (hn : NoMax s.heap) (q : Q 4300 s) : wpAny M A Builtin.intMaxStrDigits Q E s := by
  obtain ⟨mc, hns, hk⟩ := hn
  unfold Builtin.intMaxStrDigits
  refine wpAny_bind (wpAny_nsGet hns ?_)
  rw [hk]
  exact wpAny_pure q
theorem from_text {v : Value} {text : List Nat} {n : Int} {Q : Value → Shared → Prop} (hn : NoMax s.heap) (long : ¬ (text.takeWhile (· != 0)).length ≤ 640)
    (reads : (int_private% "readNumeral") 4300 10 (text.takeWhile (· != 0)) = (int_private% "Numeral.value") n) (whole : ((text.takeWhile (· != 0)).length == text.length) = true) (h : Q (.int n s.toks) { s with toks := s.toks + 1 }) :
    wpAny M A ((int_private% "intFromText") v text 10) Q E s := by
  obtain ⟨hp, g, d, tk, os⟩ := s
  repeat (any_goals (first
    | assumption
    | (with_reducible refine wpAny_ite_false (decide_eq_false long) ?_)
    | (with_reducible refine wpAny_ite_true (decide_eq_true whole) ?_)
    | (with_reducible refine max_read hn ?_)
    | wp_step))
  all_goals (try rw [reads])
  all_goals (try dsimp only)
  repeat (any_goals (first
    | assumption
    | (with_reducible refine wpAny_ite_false (decide_eq_false long) ?_)
    | (with_reducible refine wpAny_ite_true (decide_eq_true whole) ?_)
    | wp_step))
end
structure Box (p : Prop) : Prop where
  it : p
set_option maxHeartbeats 4000000 in
theorem new_wp {x : PySem.Str} {u : Tok} {n : Int} (h1 : 640 < (numSeenOf x).length) (h2 : x.length ≤ sizeLine) (told : PySem.intText? x = some n) {M : Model} {A : Around} {E : Value → Shared → Prop} {s : Shared} {Q : Value → Shared → Prop}
    (hn : NoMax s.heap) (h : Q (.int n s.toks) { s with toks := s.toks + 1 }) : wpAny M A (Builtin.«int.__new__» ⟨[.type "int", .str x u], []⟩) (fun fin s' => ∃ v, fin = .done (.ret v) ∧ Q v s') E s := by
  have hk : Box (¬ (numSeenOf x).length ≤ 640 ∧ (int_private% "readNumeral") 4300 10 (numSeenOf x) = (int_private% "Numeral.value") n ∧ ((numSeenOf x).length == (numTextOf x).length) = true) := by
    rcases read4300 x h2 with ⟨m, q1, q2, q3⟩ | ⟨q1, _⟩
    · rw [told] at q1
      cases q1
      exact ⟨by omega, q3, q2⟩
    · rw [told] at q1
      cases q1
  clear h1 h2 told
  obtain ⟨hp, g, d, tk, os⟩ := s
  have w1 := F.conv_sub_int
  have w2 := F.madeHere_int
  have w3 := PySem.W.KIN.str_int
  have w4 := PySem.W.KIN.str_idx
  have w5 := PySem.W.KIN.str_trunc
  have w6 : typeOf (.str x u) = pure (.type "str") := rfl
  repeat (any_goals (first
    | assumption
    | ((with_reducible show wpAny _ _ ((int_private% "intFromText") _ _ _) _ _ _); refine from_text hn hk.it.1 hk.it.2.1 hk.it.2.2 ?_)
    | wp_step))
  all_goals first | exact ⟨_, rfl, h⟩ | skip
section
variable {prog : Program} {w : World} {A : Around} {E : Value → Shared → Prop} {s : Shared} {Q : Value → Shared → Prop}
theorem int_text43 {x : PySem.Str} {t : Tok} {n : Int} (h1 : 640 < (numSeenOf x).length) (h2 : x.length ≤ sizeLine) (told : PySem.intText? x = some n) (hn : NoMax s.heap) (h : Q (.int n s.toks) { s with toks := s.toks + 1 }) :
    wpAny (model prog w) A (call (.type "int") [.str x t]) Q E s := by
  refine call_int_1 (S := fun _ R s => NoMax s.heap ∧ R (.ok (.ret (.int n s.toks))) { s with toks := s.toks + 1 }) ?_ ⟨hn, PySem.typeIs_int _ _ _, h⟩
  intro prog w A R s hs
  exact wpAny_mono (new_wp h1 h2 told (Q := fun v s' => R (.ok (.ret v)) s') hs.1 hs.2) (fun fin s' ⟨v, e, q⟩ => by subst e; exact q) fun _ _ z => z
end
end DL
set_option Elab.async false
set_option linter.all false
set_option maxRecDepth 100000
set_option maxHeartbeats 2000000
namespace DL
open PySem PySem.Spec L2 PySem.NumText
open PyProof.Rows hiding St
theorem nine_seen (n : Nat) : (numSeenOf (nine (n + 1))).length = n + 1 := by
  have hall : ((nine (n + 1)).cps.all (· < 128)) = true := by
    rw [← Array.all_toList, nine_cps, List.all_eq_true]
    intro x hx
    rw [(List.mem_replicate.mp hx).2]
    rfl
  have e1 : numTextOf (nine (n + 1)) = List.replicate (n + 1) 57 := by
    unfold numTextOf
    rw [if_pos hall, nine_cps]
  unfold numSeenOf
  rw [e1, List.takeWhile_replicate]
  exact List.length_replicate
section
variable {X : Cx} {F : FP} {Ta Tb : TDE} {Tas : TDA} {e a b c : Expr} {es : List Expr} {pos : Pos} {st : Stmt}
theorem call_int_strB (m : mxB X.K = true) : CallR X (.type "int") (fun xs H Q => ∃ a n, xs = [.str a] ∧ PySem.intText? a = some n ∧ a.length ≤ 4300 ∧ (a.length ≤ 640 ∨ 640 < (numSeenOf a).length) ∧ Q (.int n) H) := by
  intro pins s σ H xs us Q I rs h
  obtain ⟨a, n, rfl, hn, hl, hc, h⟩ := h
  obtain ⟨u, rfl, t, rfl⟩ := vals1 rs
  rcases hc with hc | hc
  · exact PySem.W.KIN.call_text hn hc ⟨.int n, H, I.tok _, ⟨_, rfl⟩, h⟩
  · exact int_text43 hc (Nat.le_trans hl (by rw [sizeLine_eq]; omega)) hn (inv_nomax I m) ⟨.int n, H, I.tok _, ⟨_, rfl⟩, h⟩
def gNinesB : G1 := fun x Q => match x with
  | .int n => (2 ≤ n ∧ n ≤ 4300) ∧ Q (.int (10 ^ n.toNat - 1))
  | _ => False
theorem d_ninesB {k : Nat} {p p1 p2 : Pos} {n : Expr} (m : mxB X.K = true) (hg : Gl X "int") (hm : X.mg "int" = none) (hn : PE X n (tD F Ta)) (he : starEach [.BinOp (.Constant (.str "9") k p1) .Mult n p2] X.env = (false, eval (.BinOp (.Constant (.str "9") k p1) .Mult n p2) X.env) :: starEach [] X.env := by rfl)
    (hpl : (backTo pos (starEach [] X.env)).any (·.1) = false := by rfl) : PE X (.Call (.Name "int" p) [.BinOp (.Constant (.str "9") k p1) .Mult n p2] [] pos) (tD F (dUn gNinesB Ta)) :=
  PE.imp (pe_callTy (call_int_strB m) hg hm (by decide +kernel) (pa_cons (pe_op op_nine pe_str hn) pa_nil he) (by decide) (by decide) he hpl) (by
  rintro σ H Q ⟨N, env, Qd, f, hT, k⟩
  refine ⟨N, env, _, f, hT, fun v H1 d e1 r q => ?_⟩
  cases d <;> first | exact q.elim | skip
  rename_i n
  obtain ⟨⟨h1, h2⟩, q⟩ := q
  refine ⟨n, rfl, r, ⟨h1, by omega⟩, ?_⟩
  obtain ⟨m, hm⟩ : ∃ m, n.toNat = m + 1 := ⟨n.toNat - 1, by omega⟩
  refine ⟨nine n.toNat, _, rfl, ?_, by rw [nine_len]; omega, ?_, k _ _ _ e1 rep_int q⟩
  · rw [hm]
    exact nine_int m (by omega)
  · rw [nine_len, hm, nine_seen]
    omega)
end
end DL
set_option Elab.async false
set_option linter.all false
set_option maxRecDepth 100000
/-! facts of the program's own exception classes -/
namespace DL
open PySem PySem.Spec L2
open PyProof.Rows hiding St
abbrev excTail : List Value := [.type "Exception", .type "BaseException", .type "object"]
def clsB (K : PySem.W.Frag) (n : Str) : Bool := match PySem.W.nsIn K mainGlobals n with
  | some (some (.ref a)) => PySem.W.excIn K a excTail "Exception.__new__" && PySem.W.keepIn K (.ref a) && decide (PySem.W.subIn K (.ref a) (.type "BaseException") = some true) && decide (PySem.W.typeIn K (.ref a) = some (.type "type"))
  | _ => false
def exmB (K : PySem.W.Frag) (n m : Str) (b : Bool) : Bool := decide (PySem.W.exmOne K (clsAt K n) (clsAt K m) = some b)
structure ClsF (K : PySem.W.Frag) (mg : Str → Option Value) (n : Str) (a : Addr) : Prop where
  at_ : clsAt K n = .ref a
  g : mg n = some (.ref a)
  q : PySem.W.excIn K a excTail "Exception.__new__" = true
  kp : PySem.W.keepIn K (.ref a) = true
  sub : PySem.W.subIn K (.ref a) (.type "BaseException") = some true
  ty : PySem.W.typeIn K (.ref a) = some (.type "type")
theorem cls_ok {K : PySem.W.Frag} {h : Heap} {mg : Str → Option Value} (X : K.In h) (G : h.Ns mainGlobals mg) {n : Str} (c : clsB K n = true) : ∃ a, ClsF K mg n a := by
  unfold clsB at c
  split at c
  · rename_i a e
    simp only [Bool.and_eq_true, decide_eq_true_eq] at c
    refine ⟨a, ?_, PySem.W.mg_of X G e, c.1.1.1, c.1.1.2, c.1.2, c.2⟩
    unfold clsAt
    rw [e]
  · cases c
end DL
set_option maxRecDepth 100000
namespace DL
open PySem PySem.Spec L2
/-! ### plain facts for readings -/
theorem ifd {p : Prop} [Decidable p] {A B : Prop} (h1 : p → A) (h2 : ¬ p → B) : if decide p = true then A else B := by
  by_cases h : p
  · rw [decide_eq_true h, if_pos rfl]; exact h1 h
  · rw [decide_eq_false h, if_neg Bool.false_ne_true]; exact h2 h
theorem ifdn {p : Prop} [Decidable p] {A B : Prop} (h1 : ¬ p → A) (h2 : p → B) : if (!decide p) = true then A else B := by
  by_cases h : p
  · rw [decide_eq_true h]; exact h2 h
  · rw [decide_eq_false h]; exact h1 h
theorem sz {n : Nat} (h : n ≤ 1000 := by decide) : n ≤ sizeLine := Nat.le_trans h (by rw [sizeLine_eq]; decide)
/-- an int of at most n bits -/
def Bd (n : Nat) (i : Int) : Prop := i.natAbs < 2 ^ n
theorem Bd.mono {n m : Nat} {i : Int} (h : Bd n i) (l : n ≤ m) : Bd m i := Nat.lt_of_lt_of_le h (Nat.pow_le_pow_right (by decide) l)
theorem Bd.mul {n m : Nat} {i j : Int} (h : Bd n i) (g : Bd m j) : Bd (n + m) (i * j) := wide_lt h g
theorem Bd.neg {n : Nat} {i : Int} (h : Bd n i) : Bd n (-i) := by unfold Bd; rw [Int.natAbs_neg]; exact h
theorem Bd.add {n : Nat} {i j : Int} (h : Bd n i) (g : Bd n j) : Bd (n + 1) (i + j) := by
  unfold Bd at *
  have : (i + j).natAbs ≤ i.natAbs + j.natAbs := Int.natAbs_add_le i j
  rw [Nat.pow_succ]
  omega
theorem Bd.sub {n : Nat} {i j : Int} (h : Bd n i) (g : Bd n j) : Bd (n + 1) (i - j) := by
  rw [Int.sub_eq_add_neg]
  exact h.add g.neg
theorem Bd.cmul {n m : Nat} {i j : Int} (h : Bd n i) (g : Bd m j) (l : n + m ≤ 900000 := by decide) : CMulW i j :=
  wide_mul (h.mono (Nat.le_succ n)) (g.mono (Nat.le_succ m)) (Nat.succ_pos _) (Nat.succ_pos _) (by omega)
theorem Bd.lit {n : Nat} {i : Int} (h : i.natAbs < 2 ^ n := by decide) : Bd n i := h
theorem Bd.of_le {n : Nat} {i j : Int} (h : Bd n j) (l : i.natAbs ≤ j.natAbs) : Bd n i := Nat.lt_of_le_of_lt l h
theorem Bd.cdiv {n : Nat} {i j : Int} (h : Bd n j) (p : 0 < j) (l : n ≤ 8000 := by decide) : CDivW i j :=
  wide_div p (h.mono (Nat.le_succ n)) (Nat.succ_pos _) (by omega)
theorem bd_small {i : Int} {n m : Nat} (h0 : 0 ≤ i) (h : i < n) (l : n ≤ 2 ^ m := by decide) : Bd m i := by
  unfold Bd
  omega
end DL
set_option Elab.async false
set_option linter.all false
set_option maxRecDepth 100000
set_option maxHeartbeats 2000000
/-! own exception classes whose __init__ stores its one parameter: facts, raise X(e) -/
namespace DL
open PySem PySem.Spec L2
open PySem.Builtin PySem.Builtin.ObjectAttr
open PyProof.Rows hiding St
def exc3 : List Value := [.type "Exception", .type "BaseException", .type "object"]
/-- the class n at C, its __init__ at fI; par: the parameter and the field -/
structure ExF (K : PySem.W.Frag) (mg : Str → Option Value) (n par : Str) (C fI : Addr) : Prop where
  at_ : clsAt K n = .ref C
  g : mg n = some (.ref C)
  q : PySem.W.excInitIn K C exc3 "Exception.__new__" = true
  ov : PySem.W.excOver K C exc3 = true
  sa : PySem.W.findIn K (.ref C) "__setattr__" = some (some (.builtin "object.__setattr__"))
  xf : XfC K C
  tk : PySem.W.takerIn K C par = some none
  no : PySem.W.findIn K (.ref C) par = some none
  iC : PySem.W.findIn K (.ref C) "__init__" = some (some (.ref fI))
  tI : PySem.W.typeIn K (.ref fI) = some (.type "function")
  kC : PySem.W.keepIn K (.ref C) = true
  tyC : PySem.W.typeIn K (.ref C) = some (.type "type")
def exfB (K : PySem.W.Frag) (n par : Str) : Bool := match PySem.W.nsIn K mainGlobals n with
  | some (some (.ref C)) => PySem.W.excInitIn K C exc3 "Exception.__new__" && PySem.W.excOver K C exc3 && decide (PySem.W.findIn K (.ref C) "__setattr__" = some (some (.builtin "object.__setattr__"))) && xfB K C && decide (PySem.W.takerIn K C par = some none) &&
    decide (PySem.W.findIn K (.ref C) par = some none) && PySem.W.keepIn K (.ref C) && decide (PySem.W.typeIn K (.ref C) = some (.type "type")) && (match PySem.W.findIn K (.ref C) "__init__" with
    | some (some (.ref f)) => decide (PySem.W.typeIn K (.ref f) = some (.type "function")) && decide (f = He.fAd K (n, some "__init__"))
    | _ => false)
  | _ => false
theorem exf_ok {K : PySem.W.Frag} {h : Heap} {mg : Str → Option Value} (X : K.In h) (G : h.Ns mainGlobals mg) {n par : Str} (c : exfB K n par = true) : ∃ C, ExF K mg n par C (He.fAd K (n, some "__init__")) := by
  unfold exfB at c
  split at c
  · rename_i C e
    simp only [Bool.and_eq_true, decide_eq_true_eq] at c
    obtain ⟨⟨⟨⟨⟨⟨⟨⟨c1, c2⟩, c3⟩, c4⟩, c5⟩, c6⟩, c7⟩, c8⟩, c9⟩ := c
    split at c9
    · rename_i f ef
      simp only [Bool.and_eq_true, decide_eq_true_eq] at c9
      obtain ⟨d1, d2⟩ := c9
      subst d2
      exact ⟨C, by unfold clsAt; rw [e], PySem.W.mg_of X G e, c1, c2, c3, xfB_ok c4, c5, c6, ef, d1, c7, c8⟩
    · cases c9
  · cases c
theorem sz1 (v : Value) : [v].length ≤ sizeLine := by
  rw [sizeLine_eq]
  exact (by decide : 1 ≤ 16777216)
/-- the fresh exception behind its __init__ -/
structure XiEnd (h h' : Heap) (x C dx t1 : Addr) (par : Str) (v : Value) : Prop where
  keep : ∀ b o, b ≠ x → h.get? b = some o → h'.get? b = some o
  obj : h'.get? x = some { cls := .ref C, dict := some dx, data := .fields #[.ref t1, .none, .none, .none, .bool false, .none] }
  dbig : h.objs.size ≤ dx
  dne : dx ≠ x
  ns : h'.Ns1 dx (fun y => if y = par then some v else none)
structure XiMade (h h' : Heap) (e C d : Addr) (par : Str) (v : Value) : Prop where
  keep : ∀ b o, h.get? b = some o → h'.get? b = some o
  new : h.objs.size ≤ e
  obj : ∃ oe vs, h'.get? e = some oe ∧ oe.cls = .ref C ∧ oe.dict = some d ∧ oe.data = .fields vs ∧ vs[1]? = some .none
  dbig : h.objs.size ≤ d
  dne : d ≠ e
  ns : h'.Ns1 d (fun y => if y = par then some v else none)
/-- the text of such an __init__ -/
structure InitTx (par : Str) (body : List Stmt) (scope : Scope) : Prop where
  body_ : ∃ q1 q2 q3 q4, body = [.Assign [.Attribute (.Name "self" q1) par q2] (.Name par q3) q4]
  kind : scope.kind = .function
  co : scope.isCoroutine = false
  gen : scope.isGenerator = false
  l1 : scope.names.lookup ("self" : Str) = some .local
  l2 : scope.names.lookup par = some .local
  ne : par ≠ "self"
  nd : (par == ("__debug__" : Str)) = false
  nc : (par == ("__classdict__" : Str)) = false
section
variable {prog : Program} {w : World} {A : Around} {E : Value → Shared → Prop} {R : Result → Shared → Prop} {s : Shared} {K : PySem.W.Frag} {mg : Str → Option Value} {C fI : Addr} {n par : Str}
theorem ld_loc {M : Model} {s : Shared} {name : Str} {scope : Scope} {L a : Addr} {cd : Value} {m : Str → Option Value} {x : Str} {pos : Pos} {v : Value} {Q : Value → Shared → Prop} {A : Around} {E : Value → Shared → Prop} (hn : s.heap.Ns L m) (hv : m x = some v) (h : Q v s)
    (hk : scope.kind = .function) (hl : scope.names.lookup x = some .local) (hd : (x == ("__debug__" : Str)) = false) : wpAny M A (eval (.Name x pos) (envOfC name scope L a cd)) Q E s :=
  wpAny_Name (wpAny_loadName_local hk hl hn hv h) hd
theorem xi_store {hp : Heap} {g : Array GenState} {d : Drawn} {t : Nat} {os : OsState} {name : Str} {tk : Tok} {v : Value} {x : Addr} {fv : Array Value} (T : ExF K mg n name C fI) (X : K.In hp) (hx : hp.get? x = some { cls := .ref C, data := .fields fv })
    (hq : ∀ h' tk' dx, (∀ b o, b ≠ x → hp.get? b = some o → h'.get? b = some o) → hp.objs.size ≤ dx → dx ≠ x → h'.get? x = some { cls := .ref C, dict := some dx, data := .fields fv } →
      h'.Ns1 dx (fun y => if y = name then some v else none) → R (.ok (.ret .none)) ⟨h', g, d, tk', os⟩) :
    codeAny (model prog w) A (.call (.builtin "object.__setattr__") ⟨[.ref x, .str name tk, v], []⟩) R ⟨hp, g, d, t, os⟩ := by
  have lt : x < hp.objs.size := Heap.lt_size hx
  have hxs : x ≠ hp.objs.size := Nat.ne_of_lt lt
  obtain ⟨cd, hcd, hdd⟩ := PySem.W.any_some T.xf.hdC
  have hc : PySem.W.Looks (model prog w) hp (classData C) cd := PySem.W.looks_clsIn X hcd
  refine PySem.W.osa_openX (od := none) (s := ⟨hp, g, d, t, os⟩) PySem.F.store_Exception X ⟨hx, rfl, rfl, trivial⟩ T.ov T.tk fun b => ?_
  obtain ⟨nm, bs, mro, ns, qn, hd, sn, sb, ab, col, del⟩ := cd
  dsimp only at hdd
  subst hdd
  show wpAny _ _ (storeInOwnDict (.ref x) (.ref C) (.str name tk) name v b) _ _ _
  cases b
  all_goals unfold storeInOwnDict ownDictForStores
  all_goals repeat (first | with_reducible refine PySem.HandSPX.store_in_new ?_ ?_ | with_reducible refine wpAny_loadPart_at hx ?_ | with_reducible refine hc.at ?_ | wp_step)
  all_goals first
    | (refine ⟨_, #[], _, (Heap.get?_update_ne _ _ _ _ hxs.symm).trans (Heap.get?_push_at rfl rfl), rfl, fun e he => ?_, fun _ => rfl⟩
       exact absurd he (by simp))
    | (intro h' tk' hn' hs
       have hx₁ : (hp.push { cls := .type "dict", data := .dict #[] }).get? x = some { cls := .ref C, data := .fields fv } := Heap.get?_push_of_some _ hx
       refine hq h' tk' hp.objs.size (fun b o hb ho => ?_) (Nat.le_refl _) hxs.symm ?_ hn'
       · have e1 := Heap.get?_push_of_some { cls := .type "dict", data := .dict #[] } ho
         exact (hs.2 b (Nat.ne_of_lt (Heap.lt_size ho))).trans ((Heap.get?_update_ne _ _ _ _ hb).trans e1)
       · exact (hs.2 x hxs).trans (Heap.get?_update_self _ hx₁ rfl))
/-- __init__ on a fresh exception -/
theorem xi_init {qual : Str} {params : Arguments} {body : List Stmt} {scope : Scope} {fd : FuncData} (T : ExF K mg n par C fI) (F : FunD K "__init__" qual params body scope [] [] fI fd) (B : Binds K fd ["self", par] []) (I : InitTx par body scope) {x t0 : Addr} {v : Value}
    (X : K.In s.heap) (hlim : s.heap.NoLimit) (hx : s.heap.get? x = some (PySem.HandSPX.excO C t0)) (hroom : A.depth < recursionLimit)
    (hq : ∀ h' tk dx, XiEnd s.heap h' x C dx t0 par v → R (.ok (.ret .none)) { s with heap := h', toks := tk }) : codeAny (model prog w) A (.call (.ref fI) ⟨[.ref x, v], []⟩) R s := by
  have bnd := B s [.ref x, v] X rfl
  obtain ⟨oc, od, dV, kV, doc, pm, an, cdv, ct, osl, rfl, lk, hcd, _, _⟩ := F.ex
  obtain ⟨q1, q2, q3, q4, rfl⟩ := I.body_
  have kd : ∀ y : Str, (envOfC qual scope s.heap.objs.size fI cdv).kindOf y = scope.names.lookup y := fun _ => rfl
  refine Att.call_fn (binds := [("self", .ref x), (par, v)]) X hlim lk hcd hroom bnd (by simp [I.l1, I.l2]) (fun s₁ IC => ?_) I.co I.gen I.kind
  obtain ⟨h₁, tk₁, rfl⟩ := IC.toInCall.same
  have k : ∀ b o, s.heap.get? b = some o → h₁.get? b = some o := IC.toInCall.keep
  have hn := IC.toInCall.ns
  have v1 : bindL (envOfC qual scope s.heap.objs.size fI cdv).kindOf [(("self" : Str), Value.ref x), (par, v)] (fun _ => none) "self" = some (.ref x) := by
    simp [bindL, kd, I.l1, I.l2, I.ne.symm, I.ne]
  have v2 : bindL (envOfC qual scope s.heap.objs.size fI cdv).kindOf [(("self" : Str), Value.ref x), (par, v)] (fun _ => none) par = some v := by
    simp [bindL, kd, I.l1, I.l2, I.ne.symm, I.ne]
  have X₁ := X.keeps k
  have hx₁ := k _ _ hx
  have z : s.heap.objs.size < h₁.objs.size := hn.lt
  refine wpAny_execs_cons (plainObj_wpAny_Assign_Attribute ?_ (by rfl))
  refine ld_loc hn v2 (ld_loc hn v1 ?_ I.kind I.l1 (by decide)) I.kind I.l2 I.nd
  refine PySem.W.set_plain X₁ (od := none) ⟨hx₁, rfl, rfl, trivial⟩ T.sa ?_
  refine xi_store T X₁ hx₁ fun h₃ tk₃ dx k₃ dn dne hx₃ hn₃ => ?_
  exact wpAny_execs_nil (hq h₃ tk₃ dx ⟨fun b o hb e => k₃ b o hb (k b o e), hx₃, Nat.le_of_lt (Nat.lt_of_lt_of_le z dn), dne, hn₃⟩)
theorem xi_made {qual : Str} {params : Arguments} {body : List Stmt} {scope : Scope} {fd : FuncData} (T : ExF K mg n par C fI) (F : FunD K "__init__" qual params body scope [] [] fI fd) (B : Binds K fd ["self", par] []) (I : InitTx par body scope) {v : Value}
    (X : K.In s.heap) (hlim : s.heap.NoLimit) (hroom : A.depth + 1 < recursionLimit) (hq : ∀ h' tk e d, XiMade s.heap h' e C d par v → R (.ok (.ret (.ref e))) { s with heap := h', toks := tk }) :
    codeAny (model prog w) A (.call (.ref C) ⟨[v], []⟩) R s := by
  obtain ⟨nm, N, q, bs, bm, hdct, sn, sub, ab, col, dd, k0, k1, k2, k3, k5, hC, hT⟩ := PySem.W.excInit_of X T.q
  obtain ⟨hp, g, dr, tk, os⟩ := s
  have k : ∀ b o, hp.get? b = some o → ((hp.push (PySem.W.kdv_tup [v])).push (PySem.HandSPX.excO C hp.objs.size)).get? b = some o := fun b o e => Heap.get?_push_of_some _ (Heap.get?_push_of_some _ e)
  have at1 : ((hp.push (PySem.W.kdv_tup [v])).push (PySem.HandSPX.excO C hp.objs.size)).get? (hp.objs.size + 1) = some (PySem.HandSPX.excO C hp.objs.size) := by heap_get
  refine PySem.HandSPX.call_own PySem.F.excBase_Exception hT hC (PySem.W.looks_findIn X T.iC) (fun self => PySem.W.bind_fn X self T.tI) (sz1 v) ?_
  refine xi_init (s := ⟨(hp.push (PySem.W.kdv_tup [v])).push (PySem.HandSPX.excO C hp.objs.size), g, dr, tk, os⟩) T F B I (X.keeps k) (hlim.keeps k) at1 ?_ fun h' tk' dx ⟨k', hx, dn, dne, hns⟩ => ?_
  · show A.depth + 1 < recursionLimit
    exact hroom
  · have old : ∀ b o, hp.get? b = some o → h'.get? b = some o := fun b o e => k' b o (Nat.ne_of_lt (Nat.lt_succ_of_lt (Heap.lt_size e))) (k b o e)
    have z : hp.objs.size + 1 + 1 ≤ dx := by
      have y := dn
      rw [Heap.size_push, Heap.size_push] at y
      exact y
    exact ⟨rfl, hq h' tk' (hp.objs.size + 1) dx ⟨old, Nat.le_succ _, ⟨_, _, hx, rfl, rfl, rfl, rfl⟩, Nat.le_trans (Nat.le_trans (Nat.le_succ _) (Nat.le_succ _)) z, dne, hns⟩⟩
end
theorem relO_par {par : Str} {v : V} {v' : Value} (r : RelV v v') (f : Str) : RelO (List.lookup f [(par, v)]) (if f = par then some v' else none) := by
  by_cases e : f = par
  · subst e
    rw [if_pos rfl, List.lookup_cons, beq_self_eq_true]
    exact r
  · have b : (f == par) = false := by simpa using e
    rw [if_neg e, List.lookup_cons, b]
    trivial
section
variable {X : Cx} {C fI : Addr} {n par : Str} {F : FP} {W : WX} {Ta : TDE}
/-- X(e) -/
def tMk1 (C : Addr) (par : Str) (ta : TA) : L2.St → Hp → XK → Prop := fun σ H Q => ta σ H fun vs H1 => ∃ v, vs = [v] ∧ ∀ d, H1 d = none → Q (.ref C) (some d) (upd H1 d (.xd [(par, v)]))
theorem pmk_x1 {a : Expr} {ta : TA} {p pos : Pos} {k : Nat} {qual : Str} {params : Arguments} {body : List Stmt} {scope : Scope} {fd : FuncData} (T : ExF X.K X.mg n par C fI) (Fd : FunD X.K "__init__" qual params body scope [] [] fI fd) (B : Binds X.K fd ["self", par] []) (I0 : InitTx par body scope)
    (hr : Room k X.A) (ha : PA X [a] ta) (hg : Gl X n) (hdb : (n == ("__debug__" : Str)) = false := by decide) (he : starEach (a :: []) X.env = (false, eval a X.env) :: starEach [] X.env := by rfl) (hpl : (backTo pos (starEach [] X.env)).any (·.1) = false := by rfl) :
    PMk X (.Call (.Name n p) [a] [] pos) (tMk1 C par ta) := by
  intro pins s σ H Q I h
  refine wpAny_Call_Name_kw (ld_glob I hg T.g (PySem.W.callWith_K (h₀ := X.base) I.ok.mod.kin T.kC (thn (ha.run pos pins s σ H _ I h) fun us s1 hh => ?_) he hpl) hdb)
  obtain ⟨vs, H1, I1, r1, v, rfl, q1⟩ := hh
  refine ⟨I1.kIn, ?_⟩
  obtain ⟨v', rfl, rv⟩ := vals1 r1
  show wpAny _ _ (call (.ref C) [v']) _ _ _
  have hlim := I1.nolimit
  obtain ⟨hp, g, dr, tk, os⟩ := s1
  refine wpAny_call (xi_made T Fd B I0 I1.kIn hlim (by have := hr.dp; omega) fun h' tk' e d M => ?_)
  show MkP X pins σ Q (.ref e) ⟨h', g, dr, tk', os⟩
  obtain ⟨oe, fv, hoe, hc, hd, hdat, h1⟩ := M.obj
  have hns := M.ns
  obtain ⟨G', g1, g2⟩ := restrict h' fun b => decide (b ≠ e)
  have gk : ∀ b, b ≠ e → G'.get? b = h'.get? b := fun b hb => g1 b (decide_eq_true hb)
  have ge : G'.get? e = none := g2 e (by simp)
  have old : ∀ b o, hp.get? b = some o → G'.get? b = some o := fun b o q => (gk b (Nat.ne_of_lt (Nat.lt_of_lt_of_le (Heap.lt_size q) M.new))).trans (M.keep b o q)
  have ob : ObjOk X.prog X.w (upd H1 d (.xd [(par, v)])) G' d (.xd [(par, v)]) := ⟨_, hns.at (fun o q => (gk d M.dne).trans q), fun f => relO_par rv f⟩
  have J : Inv X pins σ (upd H1 d (.xd [(par, v)])) ⟨G', g, dr, tk', os⟩ := I1.laid (t' := tk') old M.dbig ob
  refine ⟨e, oe, fv, ⟨G', g, dr, tk', os⟩, _, .ref C, some d, rfl, J, fun b o q => ?_, ge, hoe, ⟨hc, hd⟩, hdat, h1, ?_, rfl, I1.bare, raises_own T.xf.exC T.tyC, q1 d (I1.hok.fresh M.dbig)⟩
  · by_cases hb : b = e
    · have q' : G'.get? b = some o := q
      rw [hb, ge] at q'
      cases q'
    · exact (gk b hb).symm.trans q
  · rw [upd_ne (Ne.symm M.dne)]
    exact I1.hok.fresh M.new
def dRaise1 (n par : Str) (Ta : TDE) : TDS := fun ξ _ env => Ta ξ env fun d => ξ ⟨n, [(par, d)]⟩ env
theorem ds_raise1 {a : Expr} {p pos pos2 : Pos} {k : Nat} {qual : Str} {params : Arguments} {body : List Stmt} {scope : Scope} {fd : FuncData} (hc : X.calm = true) (tk : Takes X W) (wo : WOk F W) (hK : F.K = X.K) (T : ExF X.K X.mg n par C fI) (Fd : FunD X.K "__init__" qual params body scope [] [] fI fd)
    (B : Binds X.K fd ["self", par] []) (I0 : InitTx par body scope) (hr : Room k X.A) (ha : PE X a (tD F Ta)) (hg : Gl X n) (hdb : (n == ("__debug__" : Str)) = false := by decide) (he : starEach (a :: []) X.env = (false, eval a X.env) :: starEach [] X.env := by rfl) (hpl : (backTo pos (starEach [] X.env)).any (·.1) = false := by rfl) :
    PS X (.Raise (some (.Call (.Name n p) [a] [] pos)) none pos2) (sD F (dRaise1 n par Ta)) :=
  PS.imp (ps_raise hc tk (pmk_x1 T Fd B I0 hr (pa_cons ha pa_nil he) hg hdb he hpl)) (by
  rintro De σ H ⟨N, env, Dd, f, hT, ok⟩
  refine ⟨N, env, _, f, hT, fun v H1 d e1 r q => ⟨v, rfl, fun dx hdx => ?_⟩⟩
  have f1 := f.ext' e1
  have f2 := f1.ext' (f1.n.lay (o := .xd [(par, v)]) hdx)
  refine wo N σ _ env ⟨n, [(par, d)]⟩ _ (some dx) f2 ⟨by rw [hK]; exact T.at_.symm, .inr ⟨dx, [v], rfl, f1.n.fresh hdx, upd_same, v, [], rfl, ?_, rfl⟩⟩ q
  exact r.ext (f1.n.lay hdx) f1.n.z)
end
end DL
set_option Elab.async false
set_option linter.all false
set_option maxRecDepth 100000
set_option maxHeartbeats 2000000
/-! try with any number of clauses, with and without a name -/
namespace DL
open PySem PySem.Spec L2
open PyProof.Rows hiding St
abbrev HTs := Addr → Value → Option Addr → TS
def atE : Option Nat → Ends → Ends
  | none, D => D
  | some i, D => { nx := fun σ H => D.nx (σ.set i none) H, rt := D.rt, bk := fun σ H => D.bk (σ.set i none) H, ct := fun σ H => D.ct (σ.set i none) H }
def putE : Option Nat → Addr → L2.St → L2.St
  | none, _, σ => σ
  | some i, a, σ => σ.set i (some (.ref a))
/-- the clauses' wish, one behind the other -/
def wNs (K : PySem.W.Frag) (Wout : WX) (D : Ends) : List (Value × Option Nat × HTs) → WX
  | [] => Wout
  | (c, o, ts) :: r => fun cls d σ H => ∃ b, PySem.W.exmOne K cls c = some b ∧ (b = true → ∀ a, H a = none → ts a cls d (atE o D) (putE o a σ) H) ∧ (b = false → wNs K Wout D r cls d σ H)
abbrev SuiteOk (X : Cx) (sts : List Stmt) (ts : HTs) : Prop := ∀ (a : Addr) (oe : Obj) (cls : Value) (d : Option Addr) (pn : List (Addr × Obj)), Zc cls d oe → (∃ vs, oe.data = .fields vs) → PSs (X.suite a ((a, oe) :: pn)) sts (ts a cls d)
inductive HdsN (X : Cx) : List ExceptHandler → List (Value × Option Nat × HTs) → Prop
  | nil : HdsN X [] []
  | one {x : Str} {c : Value} {ts : HTs} {b₀ : Stmt} {suite : List Stmt} {np pos' : Pos} {hds : List ExceptHandler} {l : List (Value × Option Nat × HTs)} (hc : Names X x c) (hsu : SuiteOk X (b₀ :: suite) ts) (r : HdsN X hds l) :
      HdsN X (.ExceptHandler (some (.Name x np)) none (b₀ :: suite) pos' :: hds) ((c, none, ts) :: l)
  | named {x n : Str} {i : Nat} {c : Value} {ts : HTs} {b₀ : Stmt} {suite : List Stmt} {np pos' : Pos} {hds : List ExceptHandler} {l : List (Value × Option Nat × HTs)} (hi : X.N[i]? = some n) (hln : X.env.kindOf n = some .local) (hc : Names X x c) (hsu : SuiteOk X (b₀ :: suite) ts) (r : HdsN X hds l) :
      HdsN X (.ExceptHandler (some (.Name x np)) (some n) (b₀ :: suite) pos' :: hds) ((c, some i, ts) :: l)
section
variable {X : Cx} {body : List Stmt} {h₀ : ExceptHandler} {hds : List ExceptHandler} {l : List (Value × Option Nat × HTs)} {pos : Pos} {tb : WX → TS} {Wout : WX}
theorem not_frame {B h : Heap} {fr : List Env} {a : Addr} {o : Obj} {vs : Array Value} (ff : h.FunFrames B fr) (e : h.get? a = some o) (dd : o.data = .fields vs) : a ∉ frs fr := fun hm => by
  obtain ⟨_, o', e', hnf⟩ := ff.mem hm
  rw [e] at e'
  cases e'
  exact hnf _ dd
theorem ps_try_nm (hs : X.stack = X.env :: X.outer) (hf : X.env.frame = some X.env.locals) (hN : X.N.Nodup) (tk : Takes X Wout)
    (hb : ∀ (W : WX) (pn : List (Addr × Obj)) (xe : Value → Shared → Prop), Takes (X.tr pn xe) W → PassesOwn (model X.prog X.w) X.A X.env xe → PSs (X.tr pn xe) body (tb W))
    (hh : HdsN X (h₀ :: hds) l) : PS X (.Try body (h₀ :: hds) [] [] pos) (fun D σ H => tb (wNs X.K Wout D l) D σ H) := by
  refine ⟨fun pins s σ H D I h => ?_⟩
  have ok := I.ok
  have hfr : X.A.frames = some (X.env :: X.outer) := by rw [ok.frames, hs]
  have body_ := hb (wNs X.K Wout D l) (X.pn ++ pins) (fun e s₁ => wpAny (model X.prog X.w) X.A (noteFrame e X.env) (fun _ s₂ => wpAny (model X.prog X.w) X.A (setFlight e none) (fun _ s₃ =>
    wpAny (model X.prog X.w) X.A (handleBy e X.env (h₀ :: hds)) (SP X pins D) X.xe s₃) X.xe s₂) X.xe s₁)
  refine wpAny_Try_except (wpAny_mono ((body_ (fun u s' xx => ?_) PassesOwn.looking).run [] s σ H D (I.toTry _) h) (fun f s1 hsp => ?_) (fun e s1 he => he))
  · obtain ⟨a, B, sI, pins', σ', H', cls, d, rfl, J', nb, up, sky, na, os, ag, w⟩ := xx
    have J : Inv X pins σ' H' sI := J'.ofTry ok
    rw [show (X.tr (X.pn ++ pins) _).stack = X.env :: X.outer from hs] at sky
    show wpAny (model X.prog X.w) X.A (noteFrame (.ref a) X.env) _ _ _
    refine Sky.land Zc.steady hfr hf sky fun h3 fl3 up3 => ?_
    have J3 : Inv X pins σ' H' { s' with heap := h3 } := J.landed nb fl3.1 (up.trans up3) os ag
    have zc : ∀ o, Zc cls d o → o.cls = cls := fun o z => z.1
    obtain ⟨oe3, vs3, he3, hz3, hd3⟩ := fl3.there
    have nfr := not_frame fl3.2.2.1 he3 hd3
    have nL : a ≠ X.env.locals := fun z => nfr (List.mem_filterMap.mpr ⟨X.env, List.mem_cons_self, by rw [hf, z]⟩)
    have nF : a ∉ X.fs := fun hm => let ⟨e, he, q⟩ := List.mem_filterMap.mp hm; nfr (List.mem_filterMap.mpr ⟨e, List.mem_cons_of_mem _ he, q⟩)
    have S3 := J3.suite he3 hd3 na nL nF
    have test : ∀ {x : Str} {c : Value} {np : Pos}, Names X x c → ∀ {Q : Value → Shared → Prop} {E : Value → Shared → Prop}, Q c { s' with heap := h3 } → wpAny (model X.prog X.w) (X.A.mark (some (.ref a))) (eval (.Name x np) X.env) Q E { s' with heap := h3 } := fun {x c np} hc {Q E} q => by
      obtain ⟨hg, hdbg, hm | ⟨hm, hv, hnn⟩⟩ := hc
      · exact ld_glob S3 hg hm q hdbg
      · exact ld_blt S3 hg hm hv q hnn hdbg
    have suite_ : ∀ {h4 : Heap}, HandSPX.FlyingZ B (X.env :: X.outer) a (Zc cls d) h4 → h3.UpToSlots h4 → ∃ oe4, Zc cls d oe4 ∧ (∃ vs, oe4.data = .fields vs) ∧ Inv (X.suite a ((a, oe4) :: (X.pn ++ pins))) [] σ' H' { s' with heap := h4 } := fun {h4} fl4 up4 => by
      have J4 : Inv X pins σ' H' { s' with heap := h4 } := J.landed nb fl4.1 ((up.trans up3).trans up4) os ag
      obtain ⟨oe4, vs4, he4, hz4, hd4⟩ := fl4.there
      exact ⟨oe4, hz4, ⟨_, hd4⟩, J4.suite he4 hd4 na nL nF⟩
    have go : ∀ {hds' : List ExceptHandler} {l' : List (Value × Option Nat × HTs)}, HdsN X hds' l' → wNs X.K Wout D l' cls d σ' H' →
        wpAny (model X.prog X.w) X.A (handleBy (.ref a) X.env hds') (SP X pins D) X.xe { s' with heap := h3 } := by
      intro hds' l' hk
      induction hk with
      | nil => exact fun w => PX.no_clauseZ (Z := Zc cls d) (B := B) (outer := X.outer) hf fl3 fun h4 hh4 up4 => tk _ _ ⟨a, B, sI, pins, σ', H', cls, d, rfl, J, nb, (up.trans up3).trans up4, .inr (.inr (by rw [hs]; exact hh4)), na, os, ag, w⟩
      | @one x c ts b₀ suite np pos' hds2 l2 hc hsu r ih =>
        rintro ⟨b, hb1, hyes, hno⟩
        cases b with
        | false => exact PX.clause_passZ (Z := Zc cls d) (B := B) (outer := X.outer) J3.kIn zc fl3 hb1 (test hc) (ih (hno rfl))
        | true =>
          refine PX.clause_onlyZ (Z := Zc cls d) (B := B) (outer := X.outer) J3.kIn zc fl3 hb1 (test hc) fun h4 fl4 up4 => ?_
          obtain ⟨oe4, hz4, hd4, S4⟩ := suite_ fl4 up4
          refine wpAny_mono ((hsu a oe4 cls d (X.pn ++ pins) hz4 hd4).run [] _ _ H' _ S4 (hyes rfl a na)) (fun f s6 hsp => ?_) (fun _ _ z => z.elim)
          cases f with
          | next => exact let ⟨σ6, H6, S6, q6⟩ := hsp; ⟨_, _, S6.unsuite ok, q6⟩
          | brk => exact let ⟨σ6, H6, S6, q6⟩ := hsp; ⟨_, _, S6.unsuite ok, q6⟩
          | cont => exact let ⟨σ6, H6, S6, q6⟩ := hsp; ⟨_, _, S6.unsuite ok, q6⟩
          | ret u => exact let ⟨v6, σ6, H6, S6, r6, q6⟩ := hsp; ⟨_, _, _, S6.unsuite ok, r6, q6⟩
      | @named x n i c ts b₀ suite np pos' hds2 l2 hi hln hc hsu r ih =>
        rintro ⟨b, hb1, hyes, hno⟩
        cases b with
        | false => exact PX.clause_passZ (Z := Zc cls d) (B := B) (outer := X.outer) J3.kIn zc fl3 hb1 (test hc) (ih (hno rfl))
        | true =>
          refine PX.clause_asZ (Z := Zc cls d) (B := B) (outer := X.outer) J3.kIn zc fl3 hb1 (test hc) fun h4 fl4 up4 => ?_
          obtain ⟨oe4, hz4, hd4, S4⟩ := suite_ fl4 up4
          refine store_ok (X := X.suite a ((a, oe4) :: (X.pn ++ pins))) (v := .ref a) S4 hN hi (.inl hln) rfl (fun s5 S5 => ?_) (.inr hln)
          refine wpAny_mono ((hsu a oe4 cls d (X.pn ++ pins) hz4 hd4).run [] s5 _ H' _ S5 (hyes rfl a na)) (fun f s6 hsp => ?_) (fun _ _ z => z.elim)
          cases f with
          | next => exact let ⟨σ6, H6, S6, q6⟩ := hsp; gone_ok (S6.unsuite ok) hN hi hln fun s7 J7 => ⟨_, _, J7, q6⟩
          | brk => exact let ⟨σ6, H6, S6, q6⟩ := hsp; gone_ok (S6.unsuite ok) hN hi hln fun s7 J7 => ⟨_, _, J7, q6⟩
          | cont => exact let ⟨σ6, H6, S6, q6⟩ := hsp; gone_ok (S6.unsuite ok) hN hi hln fun s7 J7 => ⟨_, _, J7, q6⟩
          | ret u => exact let ⟨v6, σ6, H6, S6, r6, q6⟩ := hsp; gone_ok (S6.unsuite ok) hN hi hln fun s7 J7 => ⟨_, _, _, J7, r6, q6⟩
    exact go hh w
  · cases f with
    | next => exact let ⟨σ', H', K', q⟩ := hsp; wpAny_execs_nil ⟨σ', H', K'.ofTry ok, q⟩
    | brk => exact let ⟨σ', H', K', q⟩ := hsp; ⟨σ', H', K'.ofTry ok, q⟩
    | cont => exact let ⟨σ', H', K', q⟩ := hsp; ⟨σ', H', K'.ofTry ok, q⟩
    | ret u => exact let ⟨v, σ', H', K', r, q⟩ := hsp; ⟨v, σ', H', K'.ofTry ok, r, q⟩
end
end DL
set_option Elab.async false
set_option linter.all false
set_option maxRecDepth 100000
set_option maxHeartbeats 2000000
/-! try over data: clauses with names; e.f, isinstance(e, C) in a clause -/
namespace DL
open PySem PySem.Spec L2
open PyProof.Rows hiding St
structure Cl where
  m : Str → Option Bool
  i : Option Nat
  h : Addr → DX → TDS
def atD : Option Nat → DEnds → DEnds
  | none, D => D
  | some i, D => { nx := fun env => D.nx (env.set i .un), rt := D.rt, bk := fun env => D.bk (env.set i .un), ct := fun env => D.ct (env.set i .un) }
def putD : Option Nat → Addr → SE → SE
  | none, _, env => env
  | some i, a, env => env.set i (.raw (.ref a))
def wDs (ξ : XW) (De : DEnds) : List Cl → DX → SE → Prop
  | [], x, env => ξ x env
  | c :: r, x, env => match c.m x.cls with
    | some true => ∀ a, c.h a x (fun _ _ => False) (atD c.i De) (putD c.i a env)
    | some false => wDs ξ De r x env
    | none => False
def dTryN (cs : List Cl) (body : TDS) : TDS := fun ξ De env => body (fun x env' => wDs ξ De cs x env') De env
theorem FOk.raw {F : FP} {N : Addr → Prop} {σ : L2.St} {H : Hp} {env : SE} (f : FOk F N σ H env) (i : Nat) (v : V) : FOk F N (σ.set i (some v)) H (env.set i (.raw v)) where
  n := f.n
  len := by rw [List.length_set, List.length_set]; exact f.len
  slot := fun j s h => by
    by_cases hj : i = j
    · subst hj
      have hl : i < env.length := by
        have := (List.getElem?_eq_some_iff.mp h).1
        rwa [List.length_set] at this
      rw [List.getElem?_set_self hl] at h
      cases h
      show (σ.set i (some v))[i]? = some (some v)
      rw [List.getElem?_set_self (by rw [f.len]; exact hl)]
    · rw [List.getElem?_set_ne hj] at h
      rw [List.getElem?_set_ne hj]
      exact f.slot j s h
  apart := fun j k p xs ys hjk h1 h2 h3 h4 => by
    have o : ∀ {j : Nat} {xs : List D}, (env.set i (.raw v))[j]? = some (.own xs) → i ≠ j ∧ env[j]? = some (.own xs) := fun {j xs} h => by
      by_cases hj : i = j
      · subst hj
        have hl : i < env.length := by
          have := (List.getElem?_eq_some_iff.mp h).1
          rwa [List.length_set] at this
        rw [List.getElem?_set_self hl] at h
        cases h
      · rw [List.getElem?_set_ne hj] at h
        exact ⟨hj, h⟩
    obtain ⟨n1, h1⟩ := o h1
    obtain ⟨n2, h2⟩ := o h2
    rw [List.getElem?_set_ne n1] at h3
    rw [List.getElem?_set_ne n2] at h4
    exact f.apart j k p xs ys hjk h1 h2 h3 h4
theorem FOk.put {F : FP} {N : Addr → Prop} {σ : L2.St} {H : Hp} {env : SE} (f : FOk F N σ H env) (o : Option Nat) (a : Addr) : FOk F N (putE o a σ) H (putD o a env) := by
  cases o with
  | none => exact f
  | some i => exact f.raw i _
theorem EndsOk.at {F : FP} {N : Addr → Prop} {H : Hp} {Dd : DEnds} {De : Ends} (ok : EndsOk F N H Dd De) (o : Option Nat) : EndsOk F N H (atD o Dd) (atE o De) := by
  cases o with
  | none => exact ok
  | some i => exact ⟨fun N' σ H' env f ev q => ok.nx N' _ H' _ (f.un i) ev q, ok.rt, fun N' σ H' env f ev q => ok.bk N' _ H' _ (f.un i) ev q, fun N' σ H' env f ev q => ok.ct N' _ H' _ (f.un i) ev q⟩
theorem EndsOk.rebase {F : FP} {N : Addr → Prop} {H : Hp} {Dd : DEnds} {De : Ends} {ex : XW} (ok : EndsOk F N H Dd De) (g : Evo F.N1 F.H1 N H) : EndsOk { F with ex := ex, N1 := N, H1 := H } N H Dd De :=
  ⟨fun N' σ H' env f ev q => ok.nx N' σ H' env (f.back g) ev q, ok.rt, fun N' σ H' env f ev q => ok.bk N' σ H' env (f.back g) ev q, fun N' σ H' env f ev q => ok.ct N' σ H' env (f.back g) ev q⟩
/-- what a suite may lean on -/
structure SuiteF (F : FP) (c : Cl) (cls : Value) (d : Option Addr) (y : DX) (F' : FP) : Prop where
  k : F'.K = F.K
  z : F'.Z = F.Z
  ex : F'.ex = fun _ _ => False
  xr : XRep F'.K F'.Z F'.N1 F'.H1 y cls d
  m : c.m y.cls = some true
abbrev tsD (F : FP) (c : Cl) : HTs := fun a cls d De σ H => ∃ (y : DX) (F' : FP), SuiteF F c cls d y F' ∧ sD F' (c.h a y) De σ H
abbrev SuiteD (X : Cx) (F : FP) (sts : List Stmt) (c : Cl) : Prop := ∀ (a : Addr) (oe : Obj) (cls : Value) (d : Option Addr) (pn : List (Addr × Obj)) (y : DX) (F' : FP), Zc cls d oe → (∃ vs, oe.data = .fields vs) → SuiteF F c cls d y F' → PSs (X.suite a ((a, oe) :: pn)) sts (sD F' (c.h a y))
theorem suite_d {X : Cx} {F : FP} {sts : List Stmt} {c : Cl} (h : SuiteD X F sts c) : SuiteOk X sts (tsD F c) := fun a oe cls d pn hz hv =>
  PSs.exP fun y => PSs.exP fun F' => PSs.andP fun s => h a oe cls d pn y F' hz hv s
/-- the clauses below and over data -/
inductive HdD (X : Cx) (F : FP) : List ExceptHandler → List (Value × Option Nat × HTs) → List Cl → Prop
  | nil : HdD X F [] [] []
  | one {x : Str} {c : Value} {cl : Cl} {b₀ : Stmt} {suite : List Stmt} {np pos' : Pos} {hds : List ExceptHandler} {l : List (Value × Option Nat × HTs)} {cs : List Cl} (hc : Names X x c) (hi : cl.i = none) (hm : ∀ n b, cl.m n = some b → PySem.W.exmOne X.K (clsAt X.K n) c = some b)
      (hsu : SuiteD X F (b₀ :: suite) cl) (r : HdD X F hds l cs) : HdD X F (.ExceptHandler (some (.Name x np)) none (b₀ :: suite) pos' :: hds) ((c, none, tsD F cl) :: l) (cl :: cs)
  | named {x n : Str} {i : Nat} {c : Value} {cl : Cl} {b₀ : Stmt} {suite : List Stmt} {np pos' : Pos} {hds : List ExceptHandler} {l : List (Value × Option Nat × HTs)} {cs : List Cl} (hn : X.N[i]? = some n) (hln : X.env.kindOf n = some .local) (hc : Names X x c) (hi : cl.i = some i)
      (hm : ∀ n b, cl.m n = some b → PySem.W.exmOne X.K (clsAt X.K n) c = some b) (hsu : SuiteD X F (b₀ :: suite) cl) (r : HdD X F hds l cs) : HdD X F (.ExceptHandler (some (.Name x np)) (some n) (b₀ :: suite) pos' :: hds) ((c, some i, tsD F cl) :: l) (cl :: cs)
theorem HdD.nm {X : Cx} {F : FP} {hds : List ExceptHandler} {l : List (Value × Option Nat × HTs)} {cs : List Cl} (h : HdD X F hds l cs) : HdsN X hds l := by
  induction h with
  | nil => exact .nil
  | one hc hi hm hsu r ih => exact .one hc (suite_d hsu) ih
  | named hn hln hc hi hm hsu r ih => exact .named hn hln hc (suite_d hsu) ih
theorem HdD.wish {X : Cx} {F : FP} {W : WX} {hds : List ExceptHandler} {l : List (Value × Option Nat × HTs)} {cs : List Cl} (h : HdD X F hds l cs) (hK : F.K = X.K) (wo : WOk F W) {N : Addr → Prop} {σ : L2.St} {H : Hp} {env : SE} {y : DX} {cls : Value} {d : Option Addr} {Dd : DEnds} {De : Ends}
    (f : FOk F N σ H env) (xr : XRep F.K F.Z N H y cls d) (ok : EndsOk F N H Dd De) (hw : wDs F.ex Dd cs y env) : wNs X.K W De l cls d σ H := by
  have step : ∀ (cl : Cl), cl.m y.cls = some true → (∀ a, cl.h a y (fun _ _ => False) (atD cl.i Dd) (putD cl.i a env)) → ∀ a, tsD F cl a cls d (atE cl.i De) (putE cl.i a σ) H := fun cl m hh a =>
    ⟨y, { F with ex := fun _ _ => False, N1 := N, H1 := H }, ⟨rfl, rfl, rfl, xr, m⟩, N, putD cl.i a env, atD cl.i Dd, (f.rebase _).put cl.i a, hh a, (ok.rebase f.n.gr).at cl.i⟩
  induction h with
  | nil => exact wo N σ H env y cls d f xr hw
  | @one x c cl b₀ suite np pos' hds l cs hc hi hm hsu r ih =>
    unfold wDs at hw
    split at hw
    · rename_i m
      refine ⟨true, by rw [xr.1, hK]; exact hm _ _ m, fun _ a _ => ?_, fun z => Bool.noConfusion z⟩
      have := step cl m hw a
      rw [hi] at this
      exact this
    · rename_i m
      exact ⟨false, (by rw [xr.1, hK]; exact hm _ _ m), (fun z => Bool.noConfusion z), fun _ => ih hw⟩
    · exact hw.elim
  | @named x n i c cl b₀ suite np pos' hds l cs hn hln hc hi hm hsu r ih =>
    unfold wDs at hw
    split at hw
    · rename_i m
      refine ⟨true, by rw [xr.1, hK]; exact hm _ _ m, fun _ a _ => ?_, fun z => Bool.noConfusion z⟩
      have := step cl m hw a
      rw [hi] at this
      exact this
    · rename_i m
      exact ⟨false, (by rw [xr.1, hK]; exact hm _ _ m), (fun z => Bool.noConfusion z), fun _ => ih hw⟩
    · exact hw.elim
/-- a frame within a frame: of the same things -/
structure Sub (F F' : FP) : Prop where
  k : F'.K = F.K
  z : F'.Z = F.Z
  b : F'.B = F.B
  h : F'.H0 = F.H0
  g : Evo F.N1 F.H1 F'.N1 F'.H1
section
variable {X : Cx} {F : FP} {W : WX}
theorem ds_tryN {body : List Stmt} {h₀ : ExceptHandler} {hds : List ExceptHandler} {l : List (Value × Option Nat × HTs)} {cs : List Cl} {pos : Pos} {Tb : TDS} (hK : F.K = X.K) (hs : X.stack = X.env :: X.outer) (hf : X.env.frame = some X.env.locals) (hN : X.N.Nodup) (tk : Takes X W) (wo : WOk F W)
    (hb : ∀ (W : WX) (pn : List (Addr × Obj)) (xe : Value → Shared → Prop) (F' : FP), Takes (X.tr pn xe) W → PassesOwn (model X.prog X.w) X.A X.env xe → Sub F F' → WOk F' W → PSs (X.tr pn xe) body (sD F' Tb))
    (hh : HdD X F (h₀ :: hds) l cs) : PS X (.Try body (h₀ :: hds) [] [] pos) (sD F (dTryN cs Tb)) := by
  refine PS.imp (ps_try_nm (tb := fun W De σ H => ∃ F' : FP, (Sub F F' ∧ WOk F' W) ∧ sD F' Tb De σ H) hs hf hN tk (fun W pn xe t1 p1 => PSs.exP fun F' => PSs.andP fun h => hb W pn xe F' t1 p1 h.1 h.2) hh.nm) ?_
  rintro De σ H ⟨N, env, Dd, f, hT, ok⟩
  have g := f.n.gr
  refine ⟨{ F with ex := fun x env' => wDs F.ex Dd cs x env', N1 := N, H1 := H }, ⟨⟨rfl, rfl, rfl, rfl, g⟩, ?_⟩, N, env, Dd, f.rebase _, hT, ok.rebase g⟩
  intro N' σ' H' env' y cls od f' xr hx
  exact hh.wish hK wo (f'.back g) xr (ok.of f'.n.gr) hx
/-! ### in a suite: e.f -/
def dXf (a : Addr) (y : DX) (i : Nat) (f : Str) : TDE := fun _ env Q => env[i]? = some (.raw (.ref a)) ∧ match y.fs.lookup f with
  | some d => Q d
  | none => False
theorem zip_lookup {K : PySem.W.Frag} {Z : Zn} {N : Addr → Prop} {H : Hp} {f : Str} {d : D} : ∀ {fs : List (Str × D)} {vs : List V}, Reps K Z N H (fs.map (·.2)) vs → fs.lookup f = some d → ∃ v, ((fs.map (·.1)).zip vs).lookup f = some v ∧ Rep K Z N H d v
  | [], _, _, e => by cases e
  | (g, x) :: fs, _, ⟨v, r, rfl, h1, h2⟩, e => by
    rw [List.lookup_cons] at e
    rw [List.map_cons, List.zip_cons_cons, List.lookup_cons]
    cases q : (f == g) with
    | true =>
      rw [q] at e
      cases e
      exact ⟨v, rfl, h1⟩
    | false =>
      rw [q] at e
      exact zip_lookup h2 e
theorem xr_at {F : FP} {N : Addr → Prop} {σ : L2.St} {H : Hp} {env : SE} {y : DX} {cls : Value} {d : Option Addr} (f : FOk F N σ H env) (xr : XRep F.K F.Z F.N1 F.H1 y cls d) : XRep F.K F.Z N H y cls d := by
  obtain ⟨h1, h2 | ⟨dd, vs, e, n, h3, h4⟩⟩ := xr
  · exact ⟨h1, .inl h2⟩
  · obtain ⟨h5, n5⟩ := f.n.gr dd _ n kp_xd h3
    exact ⟨h1, .inr ⟨dd, vs, e, n5, h5, Reps.mono f.n.gr _ _ h4⟩⟩
variable {a : Addr} {oe : Obj} {cls : Value} {d : Option Addr} {pn : List (Addr × Obj)} {y : DX} {i : Nat} {x : Str} {p pos : Pos} {F' : FP} {c : Cl}
theorem d_xf {fl : Str} (hK : F.K = X.K) (S : SuiteF F c cls d y F') (hz : Zc cls d oe) (hv : ∃ vs, oe.data = .fields vs) (hX : ∃ C, clsAt X.K y.cls = .ref C ∧ XfC X.K C ∧ PySem.W.findIn X.K (.ref C) fl = some none) (he : PE (X.suite a ((a, oe) :: pn)) (.Name x p) (tVar i))
    (hb : attributeBase (.Name x p) fl X.env (eval (.Name x p) X.env) = eval (.Name x p) X.env := by rfl) : PE (X.suite a ((a, oe) :: pn)) (.Attribute (.Name x p) fl pos) (tD F' (dXf a y i fl)) := by
  obtain ⟨C, hC, T, hno⟩ := hX
  refine PE.imp (pe_xf T hno hz hv he hb) ?_
  rintro σ H Q ⟨N, env, Qd, f, ⟨h1, h2⟩, k⟩
  have e := f.slot i _ h1
  obtain ⟨q1, q2⟩ := xr_at f S.xr
  have hc : cls = .ref C := by rw [q1, S.k, hK]; exact hC
  refine ⟨.ref a, e, rfl, hc, ?_⟩
  split at h2
  · rename_i dv hl
    rcases q2 with ⟨q3, _⟩ | ⟨dd, vs, e1, n, h3, h4⟩
    · rw [q3] at hl
      cases hl
    · obtain ⟨v, l1, l2⟩ := zip_lookup h4 hl
      exact ⟨dd, _, v, e1, h3, l1, k v H dv Ext.refl l2 h2⟩
  · exact h2.elim
/-! ### isinstance(e, C) -/
structure ExIs (K : PySem.W.Frag) (C : Addr) : Prop where
  xf : XfC K C
  hcl : (PySem.W.clsIn K C).isSome = true
  ha : PySem.W.findIn K (.ref C) "__class__" = some (some (.builtin "object.__class__"))
  hn : PySem.W.specialIn K (.builtin "object.__class__") "__get__" = some (some (.builtin "getset_descriptor.__get__"))
  ht : PySem.W.takesIn K (.builtin "object.__class__") = some true
  hm : PySem.W.mroIn K C (.type "object") = some true
def dIsX (a : Addr) (y : DX) (i : Nat) (tb : Str → Option Bool) : TDE := fun _ env Q => env[i]? = some (.raw (.ref a)) ∧ match tb y.cls with
  | some b => Q (.bl b)
  | none => False
def rIsX (K : PySem.W.Frag) (D a : Addr) (d : Option Addr) : List V → Hp → VK → Prop := fun xs H Q => (∀ dd, d = some dd → ∃ fs, H dd = some (.xd fs)) ∧ ∃ (cv : Addr) (b : Bool), xs = [.ref a, .ref cv] ∧ PySem.W.kitOne K (.ref D) (.ref cv) = some b ∧ Q (.bl b) H
theorem cr_isX {D : Addr} (C : ExIs X.K D) (hz : Zc (.ref D) d oe) (hv : ∃ vs, oe.data = .fields vs) : CallR (X.suite a ((a, oe) :: pn)) (.builtin "isinstance") (rIsX X.K D a d) := by
  intro pins s σ H xs us Q I r h
  obtain ⟨hd, cv, b, rfl, e, q⟩ := h
  obtain ⟨u1, r1, rfl, hu1, r2⟩ : ∃ u1 r1, us = u1 :: r1 ∧ RelV (.ref a) u1 ∧ Vals [.ref cv] r1 := by
    cases r with
    | cons ra rb => exact ⟨_, _, rfl, ra, rb⟩
  obtain ⟨u2, rfl, hu2⟩ := vals1 r2
  obtain rfl : u1 = .ref a := hu1
  obtain rfl : u2 = .ref cv := hu2
  obtain ⟨hget, _⟩ := I.pin (a, oe) (List.mem_append.mpr (.inl List.mem_cons_self))
  obtain ⟨vs, hdat⟩ := hv
  obtain ⟨od, J⟩ : ∃ od, PySem.W.InstAt s.heap a oe D od := by
    have nc : PySem.W.notCls oe = true := by
      unfold PySem.W.notCls
      rw [hdat] <;> rfl
    cases d with
    | none => exact ⟨none, hget, hz.1, nc, by rw [hz.2]; trivial⟩
    | some dd =>
      obtain ⟨fs, hx⟩ := hd dd rfl
      obtain ⟨mA, ⟨o, es, ep, ho, hr⟩, _⟩ : ObjOk X.prog X.w H s.heap dd (.xd fs) := I.hok dd _ hx
      exact ⟨some o, hget, hz.1, nc, by rw [hz.2]; exact ho⟩
  exact PySem.W.kia_one (PySem.W.kitx_exc C.hcl C.xf.ga C.xf.gg C.xf.exC C.ha C.hn C.ht C.hm) I.kIn J e (fun z => nomatch z) fun tk => ⟨.bl b, H, I.kept (t' := tk) fun _ _ z => z, rfl, q⟩
theorem d_isX {C2 : Addr} {m : Str} {p1 p2 : Pos} {tb : Str → Option Bool} (hK : F.K = X.K) (S : SuiteF F c cls d y F') (hz : Zc cls d oe) (hv : ∃ vs, oe.data = .fields vs) (hX : ∃ C, clsAt X.K y.cls = .ref C ∧ ExIs X.K C) (he : PE (X.suite a ((a, oe) :: pn)) (.Name x p) (tVar i))
    (ht : ∀ b, tb y.cls = some b → PySem.W.kitOne X.K (clsAt X.K y.cls) (.ref C2) = some b) (hg : Gl X "isinstance") (hm : X.mg "isinstance" = none) (hg2 : Gl X m) (hm2 : X.mg m = some (.ref C2)) (hd2 : (m == ("__debug__" : Str)) = false := by decide)
    (hs1 : starEach [.Name x p, .Name m p2] X.env = (false, eval (.Name x p) X.env) :: starEach [.Name m p2] X.env := by rfl) (hs2 : starEach [.Name m p2] X.env = (false, eval (.Name m p2) X.env) :: starEach [] X.env := by rfl) (hpl : (backTo pos (starEach [.Name m p2] X.env)).any (·.1) = false := by rfl) :
    PE (X.suite a ((a, oe) :: pn)) (.Call (.Name "isinstance" p1) [.Name x p, .Name m p2] [] pos) (tD F' (dIsX a y i tb)) := by
  obtain ⟨C, hC, T⟩ := hX
  have hc : cls = .ref C := by
    rw [S.xr.1, S.k, hK]
    exact hC
  subst hc
  refine PE.imp (pe_callB (cr_isX T hz hv) hg hm (by decide +kernel) (pa_cons he (pa_cons (pe_glob (v := .ref C2) hg2 hm2 rfl hd2) pa_nil hs2) hs1) (by decide) (by decide) hs1 hpl) ?_
  rintro σ H Q ⟨N, env, Qd, f, ⟨h1, h2⟩, k⟩
  have e := f.slot i _ h1
  obtain ⟨q1, q2⟩ := xr_at f S.xr
  split at h2
  · rename_i b hb
    refine ⟨.ref a, e, ?_, C2, b, rfl, by rw [← hC]; exact ht b hb, k _ H _ Ext.refl rep_bl h2⟩
    intro dd e1
    rcases q2 with ⟨_, q3⟩ | ⟨d2, vs, e2, n, h3, h4⟩
    · rw [q3] at e1
      cases e1
    · rw [e2] at e1
      cases e1
      exact ⟨_, h3⟩
  · exact h2.elim
end
end DL
set_option Elab.async false
set_option linter.all false
set_option maxRecDepth 100000
set_option maxHeartbeats 2000000
/-! slices, in, ^, chains, sum, tuple(..), list(..), str(..), min, max over data -/
namespace DL
open PySem PySem.Spec L2
open PyProof.Rows hiding St
section
variable {X : Cx} {F : FP} {a b c e : Expr} {es : List Expr} {pos p : Pos} {Ta Tb Tc : TDE} {Tas : TDA}
/-! ### slices -/
def cutD {α : Type} (xs : List α) (lo hi : Option Int) : List α := (xs.drop (HT.sIx xs.length 0 lo)).take (HT.sIx xs.length xs.length hi - HT.sIx xs.length 0 lo)
abbrev TDO := XW → SE → (Option Int → Prop) → Prop
def dNoPart : TDO := fun _ _ Q => Q none
def dPart (T : TDE) : TDO := fun ξ env Q => T ξ env fun d => match d with
  | .int i => Q (some i)
  | _ => False
def tDO (F : FP) (T : TDO) : TO := fun σ H Q => ∃ N env Qd, FOk F N σ H env ∧ T F.ex env Qd ∧ ∀ o H', Ext F.Z H H' → Qd o → Q o H'
theorem PO.imp {lo : Option Expr} {t t' : TO} (h : PO X lo t) (hi : ∀ σ H Q, t' σ H Q → t σ H Q) : PO X lo t' := ⟨fun pins s σ H Q I hw => h.run pins s σ H Q I (hi _ _ _ hw)⟩
theorem do_none : PO X none (tDO F dNoPart) := PO.imp po_none (by
  rintro σ H Q ⟨N, env, Qd, f, hT, k⟩
  exact k none H Ext.refl hT)
theorem do_some (h : PE X e (tD F Ta)) : PO X (some e) (tDO F (dPart Ta)) := PO.imp (po_some h) (by
  rintro σ H Q ⟨N, env, Qd, f, hT, k⟩
  refine ⟨N, env, _, f, hT, fun v H1 d e1 r q => ?_⟩
  cases d <;> first | exact q.elim | exact ⟨_, r, k _ _ e1 q⟩)
def gSl (x : D) (lo hi : Option Int) (Q : D → Prop) : Prop := match x with
  | .tup ds => Q (.tup (cutD ds lo hi))
  | .lst ds => Q (.lst (cutD ds lo hi))
  | _ => False
def dSl (T : TDE) (l h : TDO) : TDE := fun ξ env Q => T ξ env fun x => l ξ env fun lo => h ξ env fun hi => gSl x lo hi Q
theorem Reps.cut {K : PySem.W.Frag} {Z : Zn} {N : Addr → Prop} {H : Hp} {ds : List D} {vs : List V} (r : Reps K Z N H ds vs) (lo hi : Option Int) : Reps K Z N H (cutD ds lo hi) (cutV vs lo hi) := by
  unfold cutD cutV
  rw [r.length]
  exact (r.drop _).take _
theorem cut_whole {α : Type} {xs : List α} {lo hi : Option Int} (h : HT.sIx xs.length 0 lo = 0 ∧ HT.sIx xs.length xs.length hi = xs.length) : cutD xs lo hi = xs := by
  unfold cutD
  rw [h.1, h.2]
  simp
theorem d_slice {lo hi : Option Expr} {p2 : Pos} {l h : TDO} (hK : F.K = X.K) (he : PE X e (tD F Ta)) (hl : PO X lo (tDO F l)) (hu : PO X hi (tDO F h)) : PE X (.Subscript e (.Slice lo hi none p2) pos) (tD F (dSl Ta l h)) := PE.imp (pe_slice (SlR.or sl_tupA sl_list) he hl hu) (by
  rintro σ H Q ⟨N, env, Qd, f, hT, k⟩
  refine ⟨N, env, _, f, hT, fun x H1 d e1 r1 q1 => ⟨N, env, _, f.ext' e1, q1, fun lo H2 e2 q2 => ⟨N, env, _, (f.ext' e1).ext' e2, q2, fun hi H3 e3 q3 => ?_⟩⟩⟩
  have f3 := ((f.ext' e1).ext' e2).ext' e3
  have r3 := r1.ext (e2.trans e3) f.n.z
  have e := (e1.trans e2).trans e3
  cases d <;> first | exact q3.elim | skip
  · rename_i ds
    have r4 := r3
    obtain ⟨a, vs, rfl, ra, rs⟩ := r3
    refine .inl ⟨a, vs, rfl, by rw [← hK]; exact sqt_of ra, fun hw => ?_, fun hw p hp => ?_⟩
    · refine k _ H3 _ e r4 ?_
      rw [← rs.length] at hw
      rw [show gSl (.tup ds) lo hi Qd = Qd (.tup (cutD ds lo hi)) from rfl, cut_whole hw] at q3
      exact q3
    · exact k _ _ _ (e.trans (f3.n.lay hp)) (rep_newT f3.n hp (rs.cut lo hi)) q3
  · rename_i ds
    obtain ⟨a, vs, rfl, na, ra, rs⟩ := r3
    exact .inr ⟨a, vs, rfl, SqL.of ra, fun p hp => k _ _ _ (e.trans (f3.n.lay hp)) (rep_newL f3.n hp (rs.cut lo hi)) q3⟩)
/-! ### in -/
def vOf : D → Option V
  | .non => some .non
  | .bl b => some (.bl b)
  | .int i => some (.int i)
  | .str x => some (.str x)
  | _ => none
theorem vOf_rep {K : PySem.W.Frag} {Z : Zn} {N : Addr → Prop} {H : Hp} {d : D} {v w : V} (h : vOf d = some w) (r : Rep K Z N H d v) : v = w ∧ flatV w = true := by
  cases d <;> first | (cases h; done) | skip
  all_goals
    cases h
    exact ⟨r, rfl⟩
theorem vOfs_reps {K : PySem.W.Frag} {Z : Zn} {N : Addr → Prop} {H : Hp} : ∀ {ds : List D} {vs ws : List V}, ds.mapM vOf = some ws → Reps K Z N H ds vs → vs = ws ∧ ws.all flatV = true
  | [], _, _, h, r => by
    cases h
    cases r
    exact ⟨rfl, rfl⟩
  | d :: ds, _, _, h, ⟨v, r, rfl, h1, h2⟩ => by
    rw [List.mapM_cons] at h
    cases q : vOf d with
    | none => rw [q] at h; cases h
    | some w =>
      cases q2 : ds.mapM vOf with
      | none => rw [q, q2] at h; cases h
      | some ws =>
        rw [q, q2] at h
        cases h
        obtain ⟨rfl, f1⟩ := vOf_rep q h1
        obtain ⟨rfl, f2⟩ := vOfs_reps q2 h2
        exact ⟨rfl, by rw [List.all_cons, f1, f2]; rfl⟩
def seqOf : D → Option (List D)
  | .tup ds => some ds
  | .lst ds => some ds
  | _ => none
def gIn (neg : Bool) : G2 := fun x y Q => match vOf x, (seqOf y).bind (·.mapM vOf) with
  | some v, some vs => Q (.bl (if neg then !inV v vs else inV v vs))
  | _, _ => False
theorem opd_in (neg : Bool) : OpD F (rIn F.K neg) (gIn neg) := ⟨by
  intro N H x y dx dy Qd Q n rx ry h k
  unfold gIn at h
  split at h
  · rename_i v vs h1 h2
    obtain ⟨rfl, f1⟩ := vOf_rep h1 rx
    cases dy <;> first | (cases h2; done) | skip
    · rename_i ds
      obtain ⟨a, ws, rfl, ra, rs⟩ := ry
      obtain ⟨rfl, f2⟩ := vOfs_reps (show ds.mapM vOf = some vs from h2) rs
      exact ⟨a, _, rfl, .inr (sqt_of ra), f1, f2, k _ _ _ Ext.refl rep_bl h⟩
    · rename_i ds
      obtain ⟨a, ws, rfl, na, ra, rs⟩ := ry
      obtain ⟨rfl, f2⟩ := vOfs_reps (show ds.mapM vOf = some vs from h2) rs
      exact ⟨a, _, rfl, .inl (SqL.of ra), f1, f2, k _ _ _ Ext.refl rep_bl h⟩
  · exact h.elim⟩
theorem d_in (hK : F.K = X.K) (ha : PE X a (tD F Ta)) (hb : PE X b (tD F Tb)) (hm : behindInMarks .In b = false := by rfl) : PE X (.Compare a [.In] [b] pos) (tD F (dBin (gIn false) Ta Tb)) := by
  have o := opd_in (F := F) false
  rw [hK] at o
  exact d_cmp op_in_seq o ha hb hm
theorem dt_in (hK : F.K = X.K) (ha : PE X a (tD F Ta)) (hb : PE X b (tD F Tb)) (hm : behindInMarks .In b = false := by rfl) : PT X (.Compare a [.In] [b] pos) (tDT F (dTest (dBin (gIn false) Ta Tb))) := by
  have o := opd_in (F := F) false
  rw [hK] at o
  exact dt_cmp op_in_seq o ha hb hm
theorem d_nin (hK : F.K = X.K) (ha : PE X a (tD F Ta)) (hb : PE X b (tD F Tb)) (hm : behindInMarks .NotIn b = false := by rfl) : PE X (.Compare a [.NotIn] [b] pos) (tD F (dBin (gIn true) Ta Tb)) := by
  have o := opd_in (F := F) true
  rw [hK] at o
  exact d_cmp op_notIn_seq o ha hb hm
theorem dt_nin (hK : F.K = X.K) (ha : PE X a (tD F Ta)) (hb : PE X b (tD F Tb)) (hm : behindInMarks .NotIn b = false := by rfl) : PT X (.Compare a [.NotIn] [b] pos) (tDT F (dTest (dBin (gIn true) Ta Tb))) := by
  have o := opd_in (F := F) true
  rw [hK] at o
  exact dt_cmp op_notIn_seq o ha hb hm
/-! ### ^ -/
abbrev gXor : G2 := gI0 fun i j => .int (Builtin.bitXor i j)
theorem d_xor (ha : PE X a (tD F Ta)) (hb : PE X b (tD F Tb)) : PE X (.BinOp a .BitXor b pos) (tD F (dBin gXor Ta Tb)) := d_op op_xor (opd_I0 fun _ _ _ _ => rfl) ha hb
abbrev gModN : G2 := gI (fun _ j => j ≠ 0) fun i j => .int (i.fmod j)
theorem d_modN (ha : PE X a (tD F Ta)) (hb : PE X b (tD F Tb)) : PE X (.BinOp a .Mod b pos) (tD F (dBin gModN Ta Tb)) := d_op op_modN (opd_I fun _ _ _ _ => rfl) ha hb
/-! ### a < b < c -/
def dChain (g g' : G2) (Ta Tb Tc : TDE) : TDE := fun ξ env Q => Ta ξ env fun x => Tb ξ env fun y => g x y fun z => match z with
  | .bl true => Tc ξ env fun w => g' y w Q
  | .bl false => Q (.bl false)
  | _ => False
theorem chain_imp {r r' : R2} {g g' : G2} (hg : OpD F r g) (hg' : OpD F r' g') : ∀ σ H Q, tD F (dChain g g' Ta Tb Tc) σ H Q → tChain r r' (tD F Ta) (tD F Tb) (tD F Tc) σ H Q := by
  rintro σ H Q ⟨N, env, Qd, f, hT, k⟩
  refine ⟨N, env, _, f, hT, fun x H1 dx e1 rx q1 => ⟨N, env, _, f.ext' e1, q1, fun y H2 dy e2 ry q2 => ?_⟩⟩
  have f2 := (f.ext' e1).ext' e2
  refine hg.ok N H2 x y dx dy _ _ f2.n (rx.ext e2 f.n.z) ry q2 fun v H3 d e3 r3 q3 => ?_
  have f3 := f2.ext' e3
  have e := (e1.trans e2).trans e3
  split at q3
  · refine ⟨true, r3, ?_⟩
    rw [if_pos rfl]
    exact ⟨N, env, _, f3, q3, fun w H4 dw e4 rw' q4 => hg'.ok N H4 y w dy dw _ _ (f3.ext' e4).n (ry.ext (e3.trans e4) f.n.z) rw' q4 fun v H5 d5 e5 r5 q5 => k v H5 d5 ((e.trans e4).trans e5) r5 q5⟩
  · refine ⟨false, r3, ?_⟩
    rw [if_neg Bool.false_ne_true]
    exact k _ _ _ e rep_bl q3
  · exact q3.elim
theorem d_chain {op op' : CmpOp} {r r' : R2} {g g' : G2} (ho : OpR X (compareOp op) r) (ho' : OpR X (compareOp op') r') (hg : OpD F r g) (hg' : OpD F r' g') (ha : PE X a (tD F Ta)) (hb : PE X b (tD F Tb)) (hc : PE X c (tD F Tc))
    (hm : lastMarks [op, op'] [b, c] = false := by with_unfolding_all rfl) : PE X (.Compare a [op, op'] [b, c] pos) (tD F (dChain g g' Ta Tb Tc)) := PE.imp (pe_chain ho ho' ha hb hc hm) (chain_imp hg hg')
theorem dt_chain {op op' : CmpOp} {r r' : R2} {g g' : G2} (ho : OpR X (compareOp op) r) (ho' : OpR X (compareOp op') r') (hg : OpD F r g) (hg' : OpD F r' g') (ha : PE X a (tD F Ta)) (hb : PE X b (tD F Tb)) (hc : PE X c (tD F Tc))
    (hm : lastMarks [op, op'] [b, c] = false := by with_unfolding_all rfl) : PT X (.Compare a [op, op'] [b, c] pos) (tDT F (dTest (dChain g g' Ta Tb Tc))) := PT.imp (pt_chain ho ho' ha hb hc hm) (tTest_imp (chain_imp hg hg'))
theorem od_lt : OpD F (rI0 fun i j => .bl (decide (i < j))) gLt := opd_I0 fun _ _ _ _ => rfl
theorem od_le : OpD F (rI0 fun i j => .bl (decide (i ≤ j))) gLe := opd_I0 fun _ _ _ _ => rfl
/-! ### sum -/
def intsOf : List D → Option (List Int)
  | [] => some []
  | .int i :: ds => (intsOf ds).map (i :: ·)
  | _ :: _ => none
theorem intsOf_eq : ∀ {ds : List D} {ns : List Int}, intsOf ds = some ns → ds = ns.map D.int
  | [], ns, h => by simp [intsOf] at h; subst h; rfl
  | d :: ds, ns, h => by
    cases d <;> first | (simp [intsOf] at h; done) | skip
    rename_i i
    simp only [intsOf, Option.map_eq_some_iff] at h
    obtain ⟨r, h1, h2⟩ := h
    rw [← h2, intsOf_eq h1]; rfl
theorem intsOf_map (ns : List Int) : intsOf (ns.map D.int) = some ns := by
  induction ns with
  | nil => rfl
  | cons n ns ih => rw [List.map_cons, intsOf, ih]; rfl
def gSum : GA := fun xs Q => match xs with
  | [x] => match (seqOf x).bind intsOf with
    | some ns => Q (.int ns.sum)
    | none => False
  | _ => False
def rSumA (K : PySem.W.Frag) : List V → Hp → VK → Prop := fun vs H Q => ∃ (a : Addr) (ns : List Int), vs = [V.ref a] ∧ (SqL K H a (ns.map V.int) ∨ SqT K H a (ns.map V.int)) ∧ Q (.int ns.sum) H
theorem cr_sumA (hc : X.calm = true) : CallR X (.builtin "sum") (rSumA X.K) := by
  intro pins s σ H vs us Q I r h
  obtain ⟨a, ns, rfl, hs | ht, q⟩ := h
  · exact cr_sum hc pins s σ H _ us Q I r ⟨a, ns, rfl, hs, q⟩
  · obtain ⟨its, rv, hl, _⟩ := I.tuple ht
    rw [Vals.ref1 r]
    obtain ⟨xs, e⟩ := rv.ints.allInts.items
    have hn : numsOf (intItems xs).toList = ns := by rw [← e]; exact rv.ints.numsOf
    rw [nums_intItems] at hn
    rw [e] at hl
    have ht2 : s.heap.IsTuple a (intItems xs) := let ⟨o, ho, hc, n, hd⟩ := hl; ⟨o, ho, hc, n, hd⟩
    refine PySem.W.ktm_sumG (I.ok.hd hc) ht2 fun h' tk t' hk => ⟨.int ns.sum, H, I.kept hk, ⟨t', ?_⟩, q⟩
    rw [preSum_eq, List.take_of_length_le (by simp), hn]
theorem cd_sum : CallD F (rSumA F.K) gSum := ⟨by
  intro N H vs ds Qd Q n r h k
  unfold gSum at h
  split at h
  · rename_i x
    split at h
    · rename_i ns hb
      obtain ⟨v, r, rfl, h1, h2⟩ := r
      cases h2
      cases x <;> first | (cases hb; done) | skip
      · rename_i ds
        obtain ⟨a, vs, rfl, ra, rs⟩ := h1
        rw [intsOf_eq (show intsOf ds = some ns from hb)] at rs
        rw [rs.ints] at ra
        exact ⟨a, ns, rfl, .inr (sqt_of ra), k _ _ _ Ext.refl rep_int h⟩
      · rename_i ds
        obtain ⟨a, vs, rfl, na, ra, rs⟩ := h1
        rw [intsOf_eq (show intsOf ds = some ns from hb)] at rs
        rw [rs.ints] at ra
        exact ⟨a, ns, rfl, .inl (SqL.of ra), k _ _ _ Ext.refl rep_int h⟩
    · exact h.elim
  · exact h.elim⟩
/-! ### tuple(x), list(x), str(i), min, max -/
def gTuple : GA := fun xs Q => match xs with
  | [.lst ds] => Q (.tup ds)
  | [.tup ds] => Q (.tup ds)
  | _ => False
theorem cd_tuple : CallD F (fun xs H Q => ∃ p ys, xs = [.ref p] ∧ ((SqL F.K H p ys ∧ ∀ l, H l = none → Q (.ref l) (upd H l (.tup ys))) ∨ (SqT F.K H p ys ∧ Q (.ref p) H))) gTuple := ⟨by
  intro N H vs ds Qd Q n r h k
  unfold gTuple at h
  split at h
  · obtain ⟨v, r, rfl, h1, h2⟩ := r
    cases h2
    obtain ⟨a, vs, rfl, na, ra, rs⟩ := h1
    exact ⟨a, vs, rfl, .inl ⟨SqL.of ra, fun p hp => k _ _ _ (n.lay hp) (rep_newT n hp rs) h⟩⟩
  · obtain ⟨v, r, rfl, h1, h2⟩ := r
    cases h2
    have h3 := h1
    obtain ⟨a, vs, rfl, ra, rs⟩ := h1
    exact ⟨a, vs, rfl, .inr ⟨sqt_of ra, k _ _ _ Ext.refl h3 h⟩⟩
  · exact h.elim⟩
def gList : GA := fun xs Q => match xs with
  | [.lst ds] => Q (.lst ds)
  | [.tup ds] => Q (.lst ds)
  | _ => False
theorem cd_list : CallD F (fun xs H Q => ∃ p ys, xs = [.ref p] ∧ (SqL F.K H p ys ∨ SqT F.K H p ys) ∧ ∀ l, H l = none → Q (.ref l) (upd H l (.lst ys))) gList := ⟨by
  intro N H vs ds Qd Q n r h k
  unfold gList at h
  split at h
  · obtain ⟨v, r, rfl, h1, h2⟩ := r
    cases h2
    obtain ⟨a, vs, rfl, na, ra, rs⟩ := h1
    exact ⟨a, vs, rfl, .inl (SqL.of ra), fun p hp => k _ _ _ (n.lay hp) (rep_newL n hp rs) h⟩
  · obtain ⟨v, r, rfl, h1, h2⟩ := r
    cases h2
    obtain ⟨a, vs, rfl, ra, rs⟩ := h1
    exact ⟨a, vs, rfl, .inr (sqt_of ra), fun p hp => k _ _ _ (n.lay hp) (rep_newL n hp rs) h⟩
  · exact h.elim⟩
def gStr : GA := fun xs Q => match xs with
  | [.int i] => i.natAbs.log2 < 1920 ∧ Q (.str (toString i))
  | _ => False
theorem cd_str : CallD F (fun xs H Q => ∃ i : Int, xs = [.int i] ∧ i.natAbs.log2 < 1920 ∧ Q (.str (toString i)) H) gStr := ⟨by
  intro N H vs ds Qd Q n r h k
  unfold gStr at h
  split at h
  · obtain ⟨v, r, rfl, h1, h2⟩ := r
    cases h2
    exact ⟨_, by rw [show v = _ from h1], h.1, k _ _ _ Ext.refl rep_str h.2⟩
  · exact h.elim⟩
def gMax2 : GA := fun xs Q => match xs with
  | [.int i, .int j] => Q (.int (if j > i then j else i))
  | _ => False
def gMin2 : GA := fun xs Q => match xs with
  | [.int i, .int j] => Q (.int (if j < i then j else i))
  | _ => False
theorem cd_max2 : CallD F (fun xs H Q => ∃ i j, xs = [.int i, .int j] ∧ Q (.int (if j > i then j else i)) H) gMax2 := ⟨by
  intro N H vs ds Qd Q n r h k
  unfold gMax2 at h
  split at h
  · obtain ⟨v, _, rfl, h1, w, _, rfl, h2, h3⟩ := r
    cases h3
    exact ⟨_, _, by rw [show v = _ from h1, show w = _ from h2], k _ _ _ Ext.refl rep_int h⟩
  · exact h.elim⟩
theorem cd_min2 : CallD F (fun xs H Q => ∃ i j, xs = [.int i, .int j] ∧ Q (.int (if j < i then j else i)) H) gMin2 := ⟨by
  intro N H vs ds Qd Q n r h k
  unfold gMin2 at h
  split at h
  · obtain ⟨v, _, rfl, h1, w, _, rfl, h2, h3⟩ := r
    cases h3
    exact ⟨_, _, by rw [show v = _ from h1, show w = _ from h2], k _ _ _ Ext.refl rep_int h⟩
  · exact h.elim⟩
end
end DL
set_option Elab.async false
set_option linter.all false
set_option maxRecDepth 100000
set_option maxHeartbeats 2000000
/-! lists of the def's own: made, appended to, stored to, read, let go as data -/
namespace DL
open PySem PySem.Spec L2
open PyProof.Rows hiding St
/-- a new list at p -/
structure NewL (F : FP) (N : Addr → Prop) (σ : L2.St) (H : Hp) (env : SE) (p : Addr) (vs : List V) (H' : Hp) (ds : List D) : Prop where
  ext : Ext F.Z H H'
  f : FOk F (fun q => N q ∨ q = p) σ H' env
  at_ : H' p = some (.lst vs)
  nb : ¬ F.B p
  rs : Reps F.K F.Z (fun q => N q ∨ q = p) H' ds vs
  ap : ∀ (j : Nat) xs, env[j]? = some (.own xs) → σ[j]? = some (some (.ref p)) → False
  fr : ∀ o, Kp o → H p = some o → False
theorem NOk.fr {F : FP} {N : Addr → Prop} {H H1 : Hp} {p : Addr} (n : NOk F N H) (e : Ext F.Z H H1) (hp : H1 p = none) : ∀ o, Kp o → H p = some o → False := fun o k h => by
  have np := (n.ext' e).fresh hp
  rw [e.keep p o (fun z => np (n.z p z)) k h] at hp
  cases hp
theorem FOk.ap {F : FP} {N : Addr → Prop} {σ : L2.St} {H : Hp} {env : SE} (f : FOk F N σ H env) {p : Addr} (np : ¬ N p) : ∀ (j : Nat) xs, env[j]? = some (.own xs) → σ[j]? = some (some (.ref p)) → False := fun j xs h e => by
  obtain ⟨q, vs, h1, h2, _⟩ := f.slot j _ h
  rw [h1] at e
  cases e
  exact np h2
abbrev TDL := XW → SE → (List D → Prop) → Prop
def tDL (F : FP) (T : TDL) : TE := fun σ H Q => ∃ N env Qd, FOk F N σ H env ∧ T F.ex env Qd ∧ ∀ p vs H' ds, NewL F N σ H env p vs H' ds → Qd ds → Q (.ref p) H'
/-- slot i holds the list -/
theorem NewL.own {F : FP} {N : Addr → Prop} {σ : L2.St} {H : Hp} {env : SE} {p : Addr} {vs : List V} {H' : Hp} {ds : List D} (n : NewL F N σ H env p vs H' ds) (i : Nat) : FOk F (fun q => N q ∨ q = p) (σ.set i (some (.ref p))) H' (env.set i (.own ds)) where
  n := n.f.n
  len := by rw [List.length_set, List.length_set]; exact n.f.len
  slot := fun j s h => by
    by_cases hj : i = j
    · subst hj
      have hl : i < env.length := by
        have := (List.getElem?_eq_some_iff.mp h).1
        rwa [List.length_set] at this
      rw [List.getElem?_set_self hl] at h
      cases h
      exact ⟨p, vs, by rw [List.getElem?_set_self (by rw [n.f.len]; exact hl)], .inr rfl, n.nb, n.at_, n.rs⟩
    · rw [List.getElem?_set_ne hj] at h
      rw [List.getElem?_set_ne hj]
      exact n.f.slot j s h
  apart := fun j k q xs ys hjk h1 h2 h3 h4 => by
    have o : ∀ {j : Nat} {xs : List D}, (env.set i (.own ds))[j]? = some (.own xs) → i ≠ j → env[j]? = some (.own xs) := fun {j xs} h hj => by
      rw [List.getElem?_set_ne hj] at h
      exact h
    have at_i : ∀ {r : Addr}, (σ.set i (some (.ref p)))[i]? = some (some (.ref r)) → r = p := fun {r} h => by
      have hl : i < σ.length := by
        have := (List.getElem?_eq_some_iff.mp h).1
        rwa [List.length_set] at this
      rw [List.getElem?_set_self hl] at h
      cases h
      rfl
    by_cases hj : i = j
    · subst hj
      have e := at_i h3
      subst e
      rw [List.getElem?_set_ne hjk] at h4
      exact n.ap k ys (o h2 hjk) h4
    · by_cases hk : i = k
      · subst hk
        have e := at_i h4
        subst e
        rw [List.getElem?_set_ne hj] at h3
        exact n.ap j xs (o h1 hj) h3
      · rw [List.getElem?_set_ne hj] at h3
        rw [List.getElem?_set_ne hk] at h4
        exact n.f.apart j k q xs ys hjk (o h1 hj) (o h2 hk) h3 h4
theorem NewL.evo {F : FP} {N : Addr → Prop} {σ : L2.St} {H : Hp} {env : SE} {p : Addr} {vs : List V} {H' : Hp} {ds : List D} (n : NewL F N σ H env p vs H' ds) (nk : NOk F N H) : Evo N H (fun q => N q ∨ q = p) H' := fun q o nq k e =>
  ⟨n.ext.keep q o (fun z => nq (nk.z q z)) k e, fun z => z.elim nq fun y => n.fr o k (by rw [← y]; exact e)⟩
section
variable {X : Cx} {F : FP} {a b c e : Expr} {es : List Expr} {pos p p1 p2 : Pos} {Ta Tb Tc : TDE} {Tas : TDA} {Tl : TDL} {tt : TDT} {te : TDE}
/-! ### new lists -/
def lLst (T : TDA) : TDL := fun ξ env Q => T ξ env fun ds => ds.length ≤ sizeLine ∧ Q ds
theorem newL_lay {N : Addr → Prop} {σ : L2.St} {H H1 : Hp} {env : SE} {p : Addr} {vs : List V} {ds : List D} (f : FOk F N σ H env) (e : Ext F.Z H H1) (hp : H1 p = none) (r : Reps F.K F.Z N H1 ds vs) : NewL F N σ H env p vs (upd H1 p (.lst vs)) ds := by
  have f1 := f.ext' e
  refine ⟨e.trans (f1.n.lay hp), f1.with kp_lst hp (f1.nb hp), upd_same, f1.nb hp, ?_, f.ap (f1.n.fresh hp), f.n.fr e hp⟩
  exact Reps.mono (fun q o n k h => by
    have ne := ne_of_none h hp
    exact ⟨by rw [upd_ne ne]; exact h, fun z => z.elim n ne⟩) _ _ r
theorem l_lst (h : PA X es (tDA F Tas)) : PE X (.List es pos) (tDL F (lLst Tas)) := PE.imp (pe_lst h) (by
  rintro σ H Q ⟨N, env, Qd, f, hT, k⟩
  refine ⟨N, env, _, f, hT, fun vs H1 ds e1 r1 q1 => ⟨by rw [← r1.length]; exact q1.1, fun p hp => k p vs _ ds (newL_lay f e1 hp r1) q1.2⟩⟩)
theorem lc_endL {N : Addr → Prop} {σ : L2.St} {H0 H1 H' : Hp} {env : SE} {A : Addr} {all : List D} {Ql : List D → Prop} {j : Nat} (f : FOk F N σ H1 env) (hA : H1 A = none) {G : TDG} {Q : VK} (f0 : FOk F N σ H0 env) (e : Ext F.Z H0 H1)
    (k : ∀ p vs H' ds, NewL F N σ H0 env p vs H' ds → Ql ds → Q (.ref p) H') {n : Nat} (hn : all.length = n) (L : LcAt F N H1 A G tt te (wipeD env [j]) all (fun d => match d with | .lst ds => Ql ds | _ => False) n H') : Q (.ref A) H' := by
  obtain ⟨ext, acc, ds, h1, h2, h3, h4⟩ := L
  rw [← hn, List.drop_length] at h4
  have h4 : Ql (ds ++ []) := h4
  rw [List.append_nil] at h4
  exact k A acc H' ds ⟨e.trans ext, f.with' kp_lst hA ext h1, h1, f.nb hA, h3, f.ap (f.n.fresh hA), f0.n.fr e hA⟩ h4
def lLcR (T : TDA) (j : Nat) (tt : TDT) (te : TDE) : TDL := fun ξ env Q => T ξ env fun ds => match ds with
  | [.int n] => (0 ≤ n ∧ n ≤ sizeLine) ∧ lcD (dgName j) tt te (wipeD env [j]) (intsD 0 n.toNat) Q
  | _ => False
theorem lcR_impL {j : Nat} : ∀ σ H Q, tDL F (lLcR Tas j tt te) σ H Q → tLc (iRng1 (tDA F Tas)) (gName j) (tDT F.calm tt) (tD F.calm te) [j] σ H Q := by
  rintro σ H Q ⟨N, env, Qd, f, hT, k⟩
  refine ⟨N, env, _, f, hT, fun vs H1 ds e1 r q => ?_⟩
  split at q
  · rename_i n
    obtain ⟨v, _, rfl, r1, r2⟩ := r
    cases r2
    have f1 := f.ext' e1
    have hs : (sizeLine : Nat) < 2 ^ 62 := by rw [sizeLine_eq]; decide
    refine ⟨n, by rw [show v = _ from r1], by omega, by omega, fun A hA => ?_⟩
    refine lc_range (lo := 0) (n := n.toNat) (fun i H' => LcAt F N H1 A (dgName j) tt te (wipeD env [j]) (intsD 0 n.toNat) (fun d => match d with | .lst ds => Qd ds | _ => False) i H') (lc_start f1.n hA q.2) (fun i H' hi L => ?_) (fun H' L => lc_endL f1 hA f e1 k ints_len L)
    exact lc_turn f1 hA (by rw [ints_len]; omega) (ints_get hi) rep_int L
  · exact q.elim
def lLc (T : TDE) (j : Nat) (tt : TDT) (te : TDE) : TDL := fun ξ env Q => T ξ env fun d => match d with
  | .lst ds => ds.length ≤ sizeLine ∧ lcD (dgName j) tt te (wipeD env [j]) ds Q
  | _ => False
theorem lc_impL {j : Nat} : ∀ σ H Q, tDL F (lLc Ta j tt te) σ H Q → tLc (iList F.K (tD F Ta)) (gName j) (tDT F.calm tt) (tD F.calm te) [j] σ H Q := by
  rintro σ H Q ⟨N, env, Qd, f, hT, k⟩
  refine ⟨N, env, _, f, hT, fun v H1 d e1 r q => ?_⟩
  cases d <;> first | exact q.elim | skip
  rename_i ds
  obtain ⟨a, vs, rfl, na, ra, rs⟩ := r
  have f1 := f.ext' e1
  refine ⟨a, rfl, ⟨vs, SqL.of ra⟩, fun A hA => ?_⟩
  refine lc_list (K := F.K) (a := a) (xs := vs) (fun i H' => LcAt F N H1 A (dgName j) tt te (wipeD env [j]) ds (fun d => match d with | .lst ds => Qd ds | _ => False) i H') (lc_start f1.n hA q.2) (fun i H' _ L => SqL.of (L.ext.keep a _ (fun z => na (f.n.z a z)) kp_lst ra)) (fun i x H' hx L => ?_) (fun H' L => lc_endL f1 hA f e1 k rs.length L)
  obtain ⟨d, hd, rd⟩ := rs.getV hx
  exact lc_turn f1 hA q.1 hd rd L
variable {elt iter tg : Expr} {ifs : List Expr} {scope : Scope} {own : List (Str × Nat)} {j : Nat} {pos' : Pos}
theorem l_lcR (hK : F.K = X.K) (hc : X.calm = true) (hN : X.N.Nodup) (hgl : Gl X "range") (hm : X.mg "range" = none) (ha : PA X [a] (tDA F Tas)) (ok : BlkOk X.N X.env.scope scope own) (hv : own.map (·.2) = [j])
    (hg : ∀ (s : Shared) (H : Hp) (C : Addr) (cl : List (Str × Addr)) (fp : List Addr), PG (X.blk s H scope (compEnvC scope cl C X.env) fp) tg (gName j)) (ht : ∀ (s : Shared) (H : Hp) (C : Addr) (cl : List (Str × Addr)) (fp : List Addr), PTs (X.blk s H scope (compEnvC scope cl C X.env) fp) ifs (tDT F.calm tt))
    (he : ∀ (s : Shared) (H : Hp) (C : Addr) (cl : List (Str × Addr)) (fp : List Addr), PE (X.blk s H scope (compEnvC scope cl C X.env) fp) elt (tD F.calm te)) (hsa : starEach [a] X.env = [(false, eval a X.env)] := by rfl) (hs : ∀ x, foldedSetIterable (.Call (.Name "range" p) [a] [] pos') X.env x = pure x := by intro _; rfl) :
    PE X (.ListComp elt [⟨tg, .Call (.Name "range" p) [a] [] pos', ifs, 0⟩] scope pos) (tDL F (lLcR Tas j tt te)) := by
  have z := pe_lc (pos := pos) hc hN (pi_range1 hgl hm ha hsa) ok hg ht he hs
  rw [hv] at z
  exact PE.imp z lcR_impL
theorem l_lc (hK : F.K = X.K) (hc : X.calm = true) (hN : X.N.Nodup) (hi : PE X iter (tD F Ta)) (ok : BlkOk X.N X.env.scope scope own) (hv : own.map (·.2) = [j])
    (hg : ∀ (s : Shared) (H : Hp) (C : Addr) (cl : List (Str × Addr)) (fp : List Addr), PG (X.blk s H scope (compEnvC scope cl C X.env) fp) tg (gName j)) (ht : ∀ (s : Shared) (H : Hp) (C : Addr) (cl : List (Str × Addr)) (fp : List Addr), PTs (X.blk s H scope (compEnvC scope cl C X.env) fp) ifs (tDT F.calm tt))
    (he : ∀ (s : Shared) (H : Hp) (C : Addr) (cl : List (Str × Addr)) (fp : List Addr), PE (X.blk s H scope (compEnvC scope cl C X.env) fp) elt (tD F.calm te)) (hs : ∀ x, foldedSetIterable iter X.env x = pure x := by intro _; rfl) :
    PE X (.ListComp elt [⟨tg, iter, ifs, 0⟩] scope pos) (tDL F (lLc Ta j tt te)) := by
  have z := pe_lc (pos := pos) hc hN (pi_list hi) ok hg ht he hs
  rw [hv] at z
  exact PE.imp z (by rw [← hK]; exact lc_impL)
/-- [..] * k -/
def lRep (Ta Tb : TDE) : TDL := fun ξ env Q => Ta ξ env fun x => Tb ξ env fun y => match x, y with
  | .lst xs, .int k => (-(2 ^ 63) ≤ k ∧ k < 2 ^ 63 ∧ xs.length * k.toNat ≤ sizeLine) ∧ Q (List.replicate k.toNat xs).flatten
  | _, _ => False
theorem l_rep (ha : PE X a (tD F Ta)) (hb : PE X b (tD F Tb)) : PE X (.BinOp a .Mult b pos) (tDL F (lRep Ta Tb)) := PE.imp (pe_op op_rep ha hb) (by
  rintro σ H Q ⟨N, env, Qd, f, hT, k⟩
  refine ⟨N, env, _, f, hT, fun x H1 dx e1 rx q1 => ⟨N, env, _, f.ext' e1, q1, fun y H2 dy e2 ry q2 => ?_⟩⟩
  have r3 := rx.ext e2 f.n.z
  split at q2
  · obtain ⟨l, vs, rfl, nl, hl, rl⟩ := r3
    cases (show y = .int _ from ry)
    exact ⟨l, _, vs, rfl, rfl, hl, q2.1.1, q2.1.2.1, by rw [← rl.length]; exact q2.1.2.2, fun p hp => k p _ _ _ (newL_lay f (e1.trans e2) hp (reps_flat rl _)) q2.2⟩
  · exact q2.elim)
/-- a + b, lists -/
def lCat (Ta Tb : TDE) : TDL := fun ξ env Q => Ta ξ env fun x => Tb ξ env fun y => match x, y with
  | .lst xs, .lst ys => xs.length + ys.length ≤ sizeLine ∧ Q (xs ++ ys)
  | _, _ => False
theorem l_cat (ha : PE X a (tD F Ta)) (hb : PE X b (tD F Tb)) : PE X (.BinOp a .Add b pos) (tDL F (lCat Ta Tb)) := PE.imp (pe_op op_cat ha hb) (by
  rintro σ H Q ⟨N, env, Qd, f, hT, k⟩
  refine ⟨N, env, _, f, hT, fun x H1 dx e1 rx q1 => ⟨N, env, _, f.ext' e1, q1, fun y H2 dy e2 ry q2 => ?_⟩⟩
  have r3 := rx.ext e2 f.n.z
  split at q2
  · obtain ⟨l, vs, rfl, nl, hl, rl⟩ := r3
    obtain ⟨b, ws, rfl, nb, hb, rb⟩ := ry
    exact ⟨l, b, vs, ws, rfl, rfl, hl, hb, by rw [← rl.length, ← rb.length]; exact q2.1, fun p hp => k p _ _ _ (newL_lay f (e1.trans e2) hp (rl.append rb)) q2.2⟩
  · exact q2.elim)
/-- list(x) -/
def lList (T : TDE) : TDL := fun ξ env Q => T ξ env fun x => match x with
  | .lst xs => Q xs
  | .tup xs => Q xs
  | _ => False
theorem l_list (hK : F.K = X.K) (hg : Gl X "list") (hm : X.mg "list" = none) (ha : PE X a (tD F Ta)) (he : starEach [a] X.env = (false, eval a X.env) :: starEach [] X.env := by rfl) (hpl : (backTo pos (starEach [] X.env)).any (·.1) = false := by rfl) :
    PE X (.Call (.Name "list" p) [a] [] pos) (tDL F (lList Ta)) := PE.imp (pe_callTy call_list_of hg hm (by decide +kernel) (pa_cons ha pa_nil he) (by decide) (by decide) he hpl) (by
  rintro σ H Q ⟨N, env, Qd, f, hT, k⟩
  refine ⟨N, env, _, f, hT, fun x H1 dx e1 rx q1 => ?_⟩
  rw [← hK]
  split at q1
  · obtain ⟨l, vs, rfl, nl, hl, rl⟩ := rx
    exact ⟨l, vs, rfl, .inl (SqL.of hl), fun p hp => k p _ _ _ (newL_lay f e1 hp rl) q1⟩
  · obtain ⟨l, vs, rfl, hl, rl⟩ := rx
    exact ⟨l, vs, rfl, .inr (sqt_of hl), fun p hp => k p _ _ _ (newL_lay f e1 hp rl) q1⟩
  · exact q1.elim)
/-! ### x = new list; x, y = new list, e -/
def dOwn (T : TDL) (i : Nat) : TDS := fun ξ De env => T ξ env fun ds => De.nx (env.set i (.own ds))
theorem ds_own {i : Nat} {x : Str} {pos' : Pos} (hN : X.N.Nodup) (hi : X.N[i]? = some x) (hx : Loc X.env.scope x) (he : PE X e (tDL F Tl)) (hs : swapsWith e (some (.Name x pos')) pos.line X.env = pure false := by rfl)
    (hf : X.fn x = true ∨ X.env.scope.names.lookup x = some .local := by first | exact .inl rfl | exact .inr rfl | assumption) : PS X (.Assign [.Name x pos'] e pos) (sD F (dOwn Tl i)) :=
  PS.imp (ps_set hN hi hx he hs hf) (by
  rintro De σ H ⟨N, env, Dd, f, hT, ok⟩
  exact ⟨N, env, _, f, hT, fun p vs H' ds n q => ok.nx _ _ _ _ (n.own i) (n.evo f.n) q⟩)
/-- x, y = new list, e -/
def dOwnPar (T : TDL) (Tb : TDE) (i j : Nat) : TDS := fun ξ De env => T ξ env fun ds => Tb ξ env fun y => De.nx ((env.set i (.own ds)).set j (.d y))
theorem NewL.ext' {N : Addr → Prop} {σ : L2.St} {H : Hp} {env : SE} {p : Addr} {vs : List V} {H' H2 : Hp} {ds : List D} (n : NewL F N σ H env p vs H' ds) (nk : NOk F N H) (e : Ext F.Z H' H2) : NewL F N σ H env p vs H2 ds :=
  ⟨n.ext.trans e, n.f.ext' e, e.keep p _ (fun z => n.nb (nk.zin p z)) kp_lst n.at_, n.nb, n.rs.ext e (fun q z => .inl (nk.z q z)), n.ap, n.fr⟩
/-- the old frame, behind the making of a list -/
theorem NewL.old {N : Addr → Prop} {σ : L2.St} {H : Hp} {env : SE} {p : Addr} {vs : List V} {H' : Hp} {ds : List D} (n : NewL F N σ H env p vs H' ds) (f : FOk F N σ H env) : FOk F N σ H' env := f.ext' n.ext
theorem ds_ownPar {i j : Nat} {x y : Str} {px py pt : Pos} {kt k2 pt2} (hc : X.calm = true) (hN : X.N.Nodup) (hi : X.N[i]? = some x) (hj : X.N[j]? = some y) (hij : i ≠ j) (hx : X.env.scope.names.lookup x = some .local) (hy : X.env.scope.names.lookup y = some .local)
    (ha : PE X a (tDL F Tl)) (hb : PE X b (tD F Tb)) (he : starEach [a, b] X.env = (false, eval a X.env) :: starEach [b] X.env := by rfl) (he2 : starEach [b] X.env = (false, eval b X.env) :: starEach [] X.env := by rfl)
    (hw : swappedStores [.Tuple [.Name x px, .Name y py] kt pt] (.Tuple [a, b] k2 pt2) X.env = pure (some [x, y]) := by rfl)
    (hs : swapsWithSole [.Tuple [.Name x px, .Name y py] kt pt] (.Tuple [a, b] k2 pt2) pos.line X.env = pure false := by rfl) : PS X (.Assign [.Tuple [.Name x px, .Name y py] kt pt] (.Tuple [a, b] k2 pt2) pos) (sD F (dOwnPar Tl Tb i j)) :=
  PS.imp (ps_par hc hN hi hj hij hx hy (pa_cons ha (pa_cons hb pa_nil he2) he) hw hs) (by
  rintro De σ H ⟨N, env, Dd, f, hT, ok⟩
  refine ⟨N, env, _, f, hT, fun p vs H1 ds n q => ⟨_, env, _, n.f, q, fun v H2 d e2 r2 q2 => ⟨_, _, rfl, ?_⟩⟩⟩
  have n2 := n.ext' f.n e2
  exact ok.nx _ _ _ _ ((n2.own i).set j r2) (n2.evo f.n) q2)
def dOwnPar3 (T : TDL) (Tb Tc : TDE) (i j l : Nat) : TDS := fun ξ De env => T ξ env fun ds => Tb ξ env fun y => Tc ξ env fun z => De.nx (((env.set i (.own ds)).set j (.d y)).set l (.d z))
theorem ds_ownPar3 {i j l : Nat} {x y z : Str} {px py pz pt : Pos} {kt k2 pt2} (hc : X.calm = true) (hN : X.N.Nodup) (hi : X.N[i]? = some x) (hj : X.N[j]? = some y) (hl : X.N[l]? = some z) (hij : i ≠ j) (hil : i ≠ l) (hjl : j ≠ l)
    (hx : X.env.scope.names.lookup x = some .local) (hy : X.env.scope.names.lookup y = some .local) (hz : X.env.scope.names.lookup z = some .local)
    (ha : PE X a (tDL F Tl)) (hb : PE X b (tD F Tb)) (hc' : PE X c (tD F Tc)) (he : starEach [a, b, c] X.env = (false, eval a X.env) :: starEach [b, c] X.env := by rfl) (he2 : starEach [b, c] X.env = (false, eval b X.env) :: starEach [c] X.env := by rfl) (he3 : starEach [c] X.env = (false, eval c X.env) :: starEach [] X.env := by rfl)
    (hw : swappedStores [.Tuple [.Name x px, .Name y py, .Name z pz] kt pt] (.Tuple [a, b, c] k2 pt2) X.env = pure (some [x, y, z]) := by rfl)
    (hs : swapsWithSole [.Tuple [.Name x px, .Name y py, .Name z pz] kt pt] (.Tuple [a, b, c] k2 pt2) pos.line X.env = pure false := by rfl) : PS X (.Assign [.Tuple [.Name x px, .Name y py, .Name z pz] kt pt] (.Tuple [a, b, c] k2 pt2) pos) (sD F (dOwnPar3 Tl Tb Tc i j l)) :=
  PS.imp (ps_par3 hc hN hi hj hl hij hil hjl hx hy hz (pa_cons ha (pa_cons hb (pa_cons hc' pa_nil he3) he2) he) hw hs) (by
  rintro De σ H ⟨N, env, Dd, f, hT, ok⟩
  refine ⟨N, env, _, f, hT, fun p vs H1 ds n q => ⟨_, env, _, n.f, q, fun v H2 d e2 r2 q2 => ⟨_, env, _, n.f.ext' e2, q2, fun w H3 dw e3 r3 q3 => ⟨_, _, _, rfl, ?_⟩⟩⟩⟩
  have n2 := n.ext' f.n (e2.trans e3)
  exact ok.nx _ _ _ _ (((n2.own i).set j (r2.ext e3 fun q z => .inl (f.n.z q z))).set l r3) (n2.evo f.n) q3)
/-! ### reading it -/
def dOwnIx (i : Nat) (Tb : TDE) : TDE := fun ξ env Q => match env[i]? with
  | some (.own xs) => Tb ξ env fun k => match k with
    | .int j => match atI xs j with
      | some d => Q d
      | none => False
    | _ => False
  | _ => False
theorem d_ownIx {i : Nat} (hK : F.K = X.K) (ha : PE X a (tVar i)) (hb : PE X b (tD F Tb)) (hs : PlainIx b) : PE X (.Subscript a b pos) (tD F (dOwnIx i Tb)) := PE.imp (pe_ix ix_seq ha hb hs) (by
  rintro σ H Q ⟨N, env, Qd, f, hT, k⟩
  unfold dOwnIx at hT
  split at hT
  · rename_i xs hx
    obtain ⟨p, vs, e1, h2, h3, h4, h5⟩ := f.slot i _ hx
    refine ⟨.ref p, e1, N, env, _, f, hT, fun y H1 d e r q => ?_⟩
    split at q
    · split at q
      · rename_i jj _ dv hd
        have h5' := h5.ext e f.n.z
        obtain ⟨v, h6, h7⟩ := atI_rep h5' hd
        cases (show y = .int _ from r)
        exact .inl ⟨p, vs, _, v, rfl, rfl, SqL.of (e.keep p _ (fun z => h3 (f.n.zin p z)) kp_lst h4), h6, k v H1 dv e h7 q⟩
      · exact q.elim
    · exact q.elim
  · exact hT.elim)
/-- the list as data, for a moment -/
theorem FOk.lend {N : Addr → Prop} {σ : L2.St} {H : Hp} {env : SE} (f : FOk F N σ H env) {i : Nat} {xs : List D} (hx : env[i]? = some (.own xs)) : ∃ p vs, σ[i]? = some (some (.ref p)) ∧ N p ∧ ¬ F.B p ∧ H p = some (.lst vs) ∧ FOk F (fun q => N q ∧ q ≠ p) σ H (env.set i (.d (.lst xs))) := by
  obtain ⟨p, vs, e1, h2, h3, h4, h5⟩ := f.slot i _ hx
  refine ⟨p, vs, e1, h2, h3, h4, ⟨f.n.deck, f.n.ext, fun q h => ⟨f.n.sub q h, fun z => h3 (by rw [← z]; exact h)⟩, f.n.zin, fun q h => f.n.all q h.1, fun q h => f.n.new q h.1, fun q o n k h => ?_, f.n.tb⟩, by rw [List.length_set]; exact f.len, fun j s h => ?_, fun j k q ys zs hjk g1 g2 g3 g4 => ?_⟩
  · obtain ⟨a1, a2⟩ := f.n.gr q o n k h
    exact ⟨a1, fun z => a2 z.1⟩
  · by_cases hj : i = j
    · subst hj
      have hl : i < env.length := (List.getElem?_eq_some_iff.mp hx).1
      rw [List.getElem?_set_self hl] at h
      cases h
      exact ⟨.ref p, e1, p, vs, rfl, fun z => z.2 rfl, h4, h5.less fun q z => z.1⟩
    · rw [List.getElem?_set_ne hj] at h
      have q := f.slot j _ h
      cases s with
      | un => trivial
      | raw v => exact q
      | d x => exact let ⟨v, q1, q2⟩ := q; ⟨v, q1, q2.less fun r z => z.1⟩
      | own ys =>
        obtain ⟨r, ws, q1, q2, q3, q4, q5⟩ := q
        exact ⟨r, ws, q1, ⟨q2, fun z => by subst z; exact f.apart i j r xs ys hj hx h e1 q1⟩, q3, q4, q5.less fun r z => z.1⟩
  · have o : ∀ {j : Nat} {ys : List D}, (env.set i (.d (.lst xs)))[j]? = some (.own ys) → env[j]? = some (.own ys) := fun {j ys} h => by
      by_cases hj : i = j
      · subst hj
        rw [List.getElem?_set_self (List.getElem?_eq_some_iff.mp hx).1] at h
        cases h
      · rw [List.getElem?_set_ne hj] at h
        exact h
    exact f.apart j k q ys zs hjk (o g1) (o g2) g3 g4
def flatD : D → Bool
  | .non => true
  | .bl _ => true
  | .int _ => true
  | .str _ => true
  | _ => false
theorem flat_any {K : PySem.W.Frag} {Z : Zn} {N N' : Addr → Prop} {H : Hp} {d : D} {v : V} (h : flatD d = true) (r : Rep K Z N H d v) : Rep K Z N' H d v := by
  cases d <;> first | exact r | cases h
/-- an expression that reads the list of slot i as data and tells something flat -/
def dLend (i : Nat) (T : TDE) : TDE := fun ξ env Q => match env[i]? with
  | some (.own xs) => T (fun _ _ => False) (env.set i (.d (.lst xs))) fun d => flatD d = true ∧ Q d
  | _ => False
theorem d_lend {i : Nat} (h : PE X e (tD F.calm Ta)) : PE X e (tD F (dLend i Ta)) := PE.imp h (by
  rintro σ H Q ⟨N, env, Qd, f, hT, k⟩
  unfold dLend at hT
  split at hT
  · rename_i xs hx
    obtain ⟨p, vs, e1, h2, h3, h4, f2⟩ := f.lend hx
    exact ⟨_, _, _, f2.wish _, hT, fun v H' d e r q => k v H' d e (flat_any q.1 r) q.2⟩
  · exact hT.elim)
/-! ### let go: from now on it is data -/
def dFreeze (i : Nat) (T : TDS) : TDS := fun ξ De env => match env[i]? with
  | some (.own xs) => T ξ De (env.set i (.d (.lst xs)))
  | _ => False
theorem dss_freeze {i : Nat} {sts : List Stmt} {T : TDS} (h : PSs X sts (sD F T)) : PSs X sts (sD F (dFreeze i T)) := PSs.imp h (by
  rintro De σ H ⟨N, env, Dd, f, hT, ok⟩
  unfold dFreeze at hT
  split at hT
  · rename_i xs hx
    obtain ⟨p, vs, e1, h2, h3, h4, f2⟩ := f.lend hx
    exact ⟨_, _, Dd, f2, hT, ok.of fun q o n k h => ⟨h, fun z => n z.1⟩⟩
  · exact hT.elim)
/-! ### x.append(e), x[i] = e -/
theorem FOk.store {N : Addr → Prop} {σ : L2.St} {H1 : Hp} {env : SE} (f : FOk F N σ H1 env) {i : Nat} {xs ys : List D} {p : Addr} {vs ws : List V} (hx : env[i]? = some (.own xs)) (e1 : σ[i]? = some (some (.ref p))) (h2 : N p) (h3 : ¬ F.B p) (h4 : H1 p = some (.lst vs)) (hr : Reps F.K F.Z N H1 ys ws) :
    FOk F N σ (upd H1 p (.lst ws)) (env.set i (.own ys)) ∧ Evo N H1 N (upd H1 p (.lst ws)) := by
  have ev : Evo N H1 N (upd H1 p (.lst ws)) := fun q o n k h => ⟨by rw [upd_ne (fun z => n (by rw [z]; exact h2))]; exact h, n⟩
  have nz : ¬ InZ F.Z p := fun z => h3 (f.n.zin p z)
  refine ⟨⟨⟨⟨fun a l ez => ?_, fun q hq => tab_upd h4 kp_lst (fun _ h => by cases h) (f.n.deck.2 q hq)⟩, ⟨fun q o n k h => ?_, fun dk => ⟨fun a l ez => ?_, fun q hq => tab_upd h4 kp_lst (fun _ h => by cases h) (f.n.deck.2 q hq)⟩⟩, f.n.sub, f.n.zin, fun q h => ?_, f.n.new, f.n.gr.trans ev, f.n.tb⟩, by rw [List.length_set]; exact f.len, fun j s h => ?_, fun j k q ys' zs hjk g1 g2 g3 g4 => ?_⟩, ev⟩
  · obtain ⟨xs, m, c, k1, k2, k3⟩ := f.n.deck.1 a l ez
    exact ⟨xs, m, c, by rw [upd_ne (fun z => nz (by rw [← z]; exact ⟨a, l, ez, .inl rfl⟩))]; exact k1, by rw [upd_ne (fun z => nz (by rw [← z]; exact ⟨a, l, ez, .inr rfl⟩))]; exact k2, k3⟩
  · have ne : q ≠ p := fun z => by
      subst z
      exact f.n.new q h2 h3 o k h
    rw [upd_ne ne]
    exact f.n.ext.keep q o n k h
  · obtain ⟨xs, m, c, k1, k2, k3⟩ := f.n.deck.1 a l ez
    exact ⟨xs, m, c, by rw [upd_ne (fun z => nz (by rw [← z]; exact ⟨a, l, ez, .inl rfl⟩))]; exact k1, by rw [upd_ne (fun z => nz (by rw [← z]; exact ⟨a, l, ez, .inr rfl⟩))]; exact k2, k3⟩
  · by_cases z : q = p
    · subst z
      exact ⟨_, upd_same, kp_lst⟩
    · obtain ⟨o, q1, q2⟩ := f.n.all q h
      exact ⟨o, by rw [upd_ne z]; exact q1, q2⟩
  · have mv : ∀ q o, ¬ N q → Kp o → H1 q = some o → upd H1 p (.lst ws) q = some o ∧ ¬ N q := fun q o n k h => ev q o n k h
    by_cases hj : i = j
    · subst hj
      rw [List.getElem?_set_self (List.getElem?_eq_some_iff.mp hx).1] at h
      cases h
      exact ⟨p, ws, e1, h2, h3, upd_same, Reps.mono mv _ _ hr⟩
    · rw [List.getElem?_set_ne hj] at h
      have q := f.slot j _ h
      cases s with
      | un => trivial
      | raw v => exact q
      | d x => exact let ⟨v, q1, q2⟩ := q; ⟨v, q1, Rep.mono mv _ _ q2⟩
      | own zs =>
        obtain ⟨r, us, q1, q2, q3, q4, q5⟩ := q
        have ne : r ≠ p := fun z => by
          subst z
          exact f.apart i j r xs zs hj hx h e1 q1
        exact ⟨r, us, q1, q2, q3, by rw [upd_ne ne]; exact q4, Reps.mono mv _ _ q5⟩
  · have o : ∀ {j : Nat} {zs : List D}, (env.set i (.own ys))[j]? = some (.own zs) → ∃ us, env[j]? = some (.own us) := fun {j zs} h => by
      by_cases hj : i = j
      · subst hj
        exact ⟨xs, hx⟩
      · rw [List.getElem?_set_ne hj] at h
        exact ⟨zs, h⟩
    obtain ⟨u1, o1⟩ := o g1
    obtain ⟨u2, o2⟩ := o g2
    exact f.apart j k q u1 u2 hjk o1 o2 g3 g4
def dApp (i : Nat) (T : TDE) : TDS := fun ξ De env => match env[i]? with
  | some (.own xs) => T ξ env fun d => xs.length < sizeLine ∧ De.nx (env.set i (.own (xs ++ [d])))
  | _ => False
theorem ds_app {i : Nat} {x : Str} {apos cpos : Pos} (hK : F.K = X.K) (hx : PE X (.Name x p) (tVar i)) (he : PE X e (tD F Ta)) (hbase : attributeBase (.Name x p) "append" X.env (eval (.Name x p) X.env) = eval (.Name x p) X.env := by rfl)
    (hfew : ((backTo cpos (starEach [e] X.env)).all (fun x => !x.1) && (backToKw cpos (keywordEach [] X.env)).all (fun x => x.1.isSome) && decide ([e].length + ([] : List Keyword).length + (if ([] : List Keyword).isEmpty then 0 else 1) < 30)) = true := by rfl)
    (hline : (apos.endLine == cpos.line) = true := by rfl) (hs : starEach [e] X.env = (false, eval e X.env) :: starEach [] X.env := by rfl) (hplain : (backTo cpos (starEach [] X.env)).any (·.1) = false := by rfl)
    (hsw : swapsWith (.Call (.Attribute (.Name x p) "append" apos) [e] [] cpos) none pos.line X.env = pure false := by rfl) : PS X (.Expr (.Call (.Attribute (.Name x p) "append" apos) [e] [] cpos) pos) (sD F (dApp i Ta)) :=
  PS.imp (ps_expr (pe_bm PySem.F.plainAttrs_list PySem.F.slot_list_append PySem.F.type_list_append mt_append hx (pa_cons he pa_nil hs) hbase hfew hline hs hplain) hsw) (by
  rintro De σ H ⟨N, env, Dd, f, hT, ok⟩
  unfold dApp at hT
  split at hT
  · rename_i xs hx
    obtain ⟨p, vs, e1, h2, h3, h4, h5⟩ := f.slot i _ hx
    refine ⟨.ref p, e1, .inl ⟨rfl, vs, by rw [← hK]; exact SqL.of h4⟩, N, env, _, f, hT, fun v H1 d ex r q => ?_⟩
    have f1 := f.ext' ex
    have h4' : H1 p = some (.lst vs) := ex.keep p _ (fun z => h3 (f.n.zin p z)) kp_lst h4
    have h5' := h5.ext ex f.n.z
    refine ⟨p, vs, v, rfl, rfl, h4', by rw [← h5.length]; exact q.1, ?_⟩
    obtain ⟨f2, ev⟩ := f1.store hx e1 h2 h3 h4' (h5'.snoc r)
    exact ok.nx _ _ _ _ f2 ((Evo.of f.n ex).trans ev) q.2
  · exact hT.elim)
/-- x[k] = e -/
def dSetAt (i : Nat) (Tk Te : TDE) : TDS := fun ξ De env => Te ξ env fun d => match env[i]? with
  | some (.own xs) => Tk ξ env fun k => match k with
    | .int j => match ixN xs.length j with
      | some n => De.nx (env.set i (.own (xs.set n d)))
      | none => False
    | _ => False
  | _ => False
theorem Reps.set {K : PySem.W.Frag} {Z : Zn} {N : Addr → Prop} {H : Hp} {d : D} {v : V} (r : Rep K Z N H d v) : ∀ {ds : List D} {vs : List V} (n : Nat), Reps K Z N H ds vs → Reps K Z N H (ds.set n d) (vs.set n v)
  | [], _, _, h => by cases h; rfl
  | x :: ds, _, 0, ⟨w, u, rfl, h1, h2⟩ => ⟨v, u, rfl, r, h2⟩
  | x :: ds, _, n + 1, ⟨w, u, rfl, h1, h2⟩ => ⟨w, u.set n v, rfl, h1, Reps.set r n h2⟩
theorem ds_setAt {i : Nat} {x : Str} {pk : Expr} {sp : Pos} (hx : PE X (.Name x p) (tVar i)) (hk : PE X pk (tD F Tb)) (he : PE X e (tD F Ta))
    (hA : ∀ v, assign (.Subscript (.Name x p) pk sp) X.env v = (do
      let ov ← holding [v] (eval (.Name x p) X.env)
      let iv ← holding [v, ov] (eval pk X.env)
      standAt sp
      holding [v, ov, iv] (setItem ov iv v)
      release [v, ov, iv] []) := by intro _; rfl)
    (hs : swapsWithSole [.Subscript (.Name x p) pk sp] e pos.line X.env = pure false := by rfl) (hw : swappedStores [.Subscript (.Name x p) pk sp] e X.env = pure none := by rfl) (h1 : (assignEach [.Subscript (.Name x p) pk sp] X.env).map (·.2) = [assign (.Subscript (.Name x p) pk sp) X.env] := by rfl) :
    PS X (.Assign [.Subscript (.Name x p) pk sp] e pos) (sD F (dSetAt i Tb Ta)) := PS.imp (ps_asg he (pg_sub hx hk set_list hA) hs hw h1) (by
  rintro De σ H ⟨N, env, Dd, f, hT, ok⟩
  refine ⟨N, env, _, f, hT, fun v H1 d e1 r q => ?_⟩
  split at q
  · rename_i xs hx
    have f1 := f.ext' e1
    obtain ⟨p, vs, s1, h2, h3, h4, h5⟩ := f1.slot i _ hx
    refine ⟨.ref p, s1, N, env, _, f1, q, fun kv H2 dk e2 r2 q2 => ?_⟩
    split at q2
    · split at q2
      · rename_i j _ n hn
        cases (show kv = .int j from r2)
        have f2 := f1.ext' e2
        have h4' : H2 p = some (.lst vs) := e2.keep p _ (fun z => h3 (f1.n.zin p z)) kp_lst h4
        have h5' := h5.ext e2 f1.n.z
        refine ⟨p, vs, j, n, rfl, rfl, h4', by rw [← h5.length]; exact hn, ?_⟩
        obtain ⟨f3, ev⟩ := f2.store hx s1 h2 h3 h4' (Reps.set (r.ext e2 f1.n.z) n h5')
        exact ok.nx _ _ _ _ f3 ((Evo.of f.n (e1.trans e2)).trans ev) q2
      · exact q2.elim
    · exact q2.elim
  · exact q.elim)
end
end DL
set_option Elab.async false
set_option linter.all false
set_option maxRecDepth 100000
set_option maxHeartbeats 2000000
/-! dicts as data; repr of all data; x[::-1] -/
namespace DL
open PySem PySem.Spec L2
open PyProof.Rows hiding St
/-- the table of modules is a dict of the top -/
def smB (K : PySem.W.Frag) : Bool := match K.lookup sysModules with
  | some ⟨.type "dict", _, _, _⟩ => true
  | _ => false
theorem sm_ne {K : PySem.W.Frag} {h : Heap} (X : K.In h) (c : smB K = true) {a : Addr} {o : Obj} (e : h.get? a = some o) (hc : o.cls = .type "list") : a ≠ sysModules := fun z => by
  subst z
  unfold smB at c
  split at c
  · rename_i d1 d2 d3 q
    have y := X _ _ q
    rw [e] at y
    have y2 := congrArg Obj.cls (Option.some.inj y)
    rw [hc] at y2
    exact absurd (show Value.type "list" = Value.type "dict" from y2) (by decide)
  · cases c
def keyP : Key → PyData
  | .inl i => .int i
  | .inr x => .str x
mutual
def plainR : D → Bool
  | .tup ds => plainRs ds
  | .lst ds => plainRs ds
  | .dct ks ds => decide (ks.length = ds.length) && plainRs ds
  | .deck => false
  | .ty _ => false
  | _ => true
def plainRs : List D → Bool
  | [] => true
  | d :: ds => plainR d && plainRs ds
end
theorem toPk_keys : ∀ {ks : List Key} {ds : List D}, ks.length = ds.length → (toPk ks ds).map (·.1) = ks.map keyP ∧ (toPk ks ds).map (·.2) = toPs ds
  | [], [], _ => ⟨rfl, rfl⟩
  | [], _ :: _, h => by cases h
  | _ :: _, [], h => by cases h
  | k :: ks, d :: ds, h => by
    obtain ⟨h1, h2⟩ := toPk_keys (ks := ks) (ds := ds) (by simpa using h)
    simp only [toPk, List.map_cons, h1, h2, toPs]
    refine ⟨?_, trivial⟩
    cases k <;> rfl
section
variable {X : Cx} {pins : List (Addr × Obj)} {σ : L2.St} {H : Hp} {s : Shared} {K : PySem.W.Frag} {Z : Zn} {N : Addr → Prop}
theorem pairs_reads {P : Program} {w : World} {h : Heap} : ∀ {es : List DictEntry} {ks : List Key} {vs : List V} {us : List (Key × Value)}, KV (ks.zip vs) us → ks.length = vs.length → Pairs (mixKind P w) es us → ReadsAll h (es.map (·.key)) (ks.map keyP) [] ∧ Vals vs (es.map (·.val))
  | es, [], [], us, kv, _, p => by
    cases kv
    cases p
    exact ⟨.nil, .nil⟩
  | es, [], _ :: _, us, kv, l, p => by cases l
  | es, _ :: _, [], us, kv, l, p => by cases l
  | es, k :: ks, v :: vs, us, kv, l, p => by
    rw [List.zip_cons_cons] at kv
    cases kv with
    | cons a b =>
      cases p with
      | cons p1 p2 p3 =>
        rename_i e es'
        obtain ⟨h1, h2⟩ := pairs_reads (h := h) b (by simpa using l) p3
        have a1 := a.1
        dsimp only at a1
        rw [← a1] at p1
        refine ⟨?_, .cons (by show L2.RelV v e.val; rw [p2]; exact a.2) h2⟩
        rcases keyIs_shape (show keyIs k e.key = true from p1) with ⟨i, t, rfl, e2⟩ | ⟨x, t, rfl, e2⟩
        · rw [List.map_cons, e2]
          exact ReadsAll.cons (as := []) (.int i t) h1
        · rw [List.map_cons, e2]
          exact ReadsAll.cons (as := []) (.str x t) h1
mutual
/-- data is read as the library reads it, dicts too -/
theorem Rep.reads (I : Inv X pins σ H s) (c : smB X.K = true) : ∀ (d : D) (v : V) (u : Value), plainR d = true → Rep X.K Z N H d v → RelV v u → ∃ as, Reads s.heap u (toP d) as ∧ sysModules ∉ as
  | .non, _, _, _, h, r => by
    cases (show _ = V.non from h)
    cases (show _ = Value.none from r)
    exact ⟨_, .none, by simp⟩
  | .bl b, _, _, _, h, r => by
    cases (show _ = V.bl b from h)
    cases (show _ = Value.bool b from r)
    exact ⟨_, .bool b, by simp⟩
  | .int i, _, _, _, h, r => by
    cases (show _ = V.int i from h)
    obtain ⟨t, rfl⟩ := (show ∃ t, _ = Value.int i t from r)
    exact ⟨_, .int i t, by simp⟩
  | .str x, _, _, _, h, r => by
    cases (show _ = V.str x from h)
    obtain ⟨t, rfl⟩ := (show ∃ t, _ = Value.str x t from r)
    exact ⟨_, .str x t, by simp⟩
  | .tup ds, _, u, p, h, r => by
    obtain ⟨a, vs, rfl, ra, rs⟩ := h
    cases (show u = Value.ref a from r)
    obtain ⟨its, rv, ⟨o, ho, hc, n, hd⟩, _⟩ := I.tuple (sqt_of ra)
    obtain ⟨as, hr, hn⟩ := Reps.reads I c ds vs its p rs rv
    exact ⟨as, .tuple ho hc hd (by simpa using hr), hn⟩
  | .lst ds, _, u, p, h, r => by
    obtain ⟨a, vs, rfl, na, ra, rs⟩ := h
    cases (show u = Value.ref a from r)
    obtain ⟨its, rv, ⟨o, n, ho, hc, _, hd⟩, _⟩ := I.list (SqL.of ra)
    obtain ⟨as, hr, hn⟩ := Reps.reads I c ds vs its p rs rv
    refine ⟨_, .list ho hc hd (by simpa using hr), fun z => ?_⟩
    rcases List.mem_cons.mp z with z | z
    · exact sm_ne I.kIn c ho hc z.symm
    · exact hn z
  | .dct ks ds, _, u, p, h, r => by
    obtain ⟨a, vs, rfl, na, ra, lk, rs⟩ := h
    cases (show u = Value.ref a from r)
    obtain ⟨p1, p2⟩ := Bool.and_eq_true_iff.mp p
    obtain ⟨z, hs, us, kv, o, es, ep, ho, hx, hd, _, hp, _⟩ := dk_of I.hok ra
    obtain ⟨h1, h2⟩ := pairs_reads (h := s.heap) kv lk hp
    obtain ⟨as, hr, hn⟩ := Reps.reads I c ds vs _ p2 rs h2
    obtain ⟨k1, k2⟩ := toPk_keys (of_decide_eq_true p1)
    refine ⟨_, .dict ho hx.1 hd (by rw [k1]; exact h1) (by rw [k2]; exact hr), fun y => ?_⟩
    rcases List.mem_append.mp y with y | y
    · rcases List.mem_cons.mp y with y | y
      · rw [y] at hs
        simp at hs
      · cases y
    · exact hn y
  | .deck, _, _, p, _, _ => by cases p
  | .ty _, _, _, p, _, _ => by cases p
theorem Reps.reads (I : Inv X pins σ H s) (c : smB X.K = true) : ∀ (ds : List D) (vs : List V) (us : List Value), plainRs ds = true → Reps X.K Z N H ds vs → Vals vs us → ∃ as, ReadsAll s.heap us (toPs ds) as ∧ sysModules ∉ as
  | [], _, _, _, h, r => by
    cases h
    cases r
    exact ⟨_, .nil, by simp⟩
  | d :: ds, _, _, p, h, r => by
    obtain ⟨v, w, rfl, h1, h2⟩ := h
    obtain ⟨p1, p2⟩ := Bool.and_eq_true_iff.mp p
    cases r with
    | cons r1 r2 =>
      obtain ⟨as, q1, n1⟩ := Rep.reads I c d v _ p1 h1 r1
      obtain ⟨bs, q2, n2⟩ := Reps.reads I c ds w _ p2 h2 r2
      exact ⟨_, .cons q1 q2, fun z => (List.mem_append.mp z).elim n1 n2⟩
end
end
section
variable {X : Cx} {F : FP} {e : Expr} {es : List Expr} {pos : Pos} {Tas : TDA} {Ta Tb : TDE}
/-! ### repr -/
def showR (d : D) : Prop := plainR d = true ∧ (toP d).showable = true ∧ (toP d).depth ≤ 64 ∧ ((toP d).shown).length ≤ sizeLine
def gReprR : GA := fun xs Q => match xs with
  | [d] => showR d ∧ Q (.str (toP d).shown)
  | _ => False
def rReprR (K : PySem.W.Frag) : List V → Hp → VK → Prop := fun vs H Q => ∃ v d Z N, vs = [v] ∧ Rep K Z N H d v ∧ showR d ∧ Q (.str (toP d).shown) H
theorem cr_reprR (c : smB X.K = true) (hg : X.A.guards = some []) (hu : X.A.units + 80 < cLine) : CallR X (.builtin "repr") (rReprR X.K) := by
  intro pins s σ H vs us Q I r h
  obtain ⟨v, d, Z, N, rfl, rp, ⟨h0, h1, h3, h4⟩, q⟩ := h
  obtain ⟨u, rfl, rv⟩ := vals1 r
  obtain ⟨as, rd, na⟩ := Rep.reads I c d v u h0 rp rv
  generalize toP d = y at *
  cases rd with
  | none => exact PySem.P.repr_of_none ⟨.str _, H, I.tok _, ⟨_, rfl⟩, q⟩
  | bool b => exact PySem.P.repr_of_bool ⟨.str _, H, I.tok _, ⟨_, rfl⟩, q⟩
  | int i t => exact PySem.P.repr_of_int (of_decide_eq_true h1) ⟨.str _, H, I.tok _, ⟨_, rfl⟩, q⟩
  | str x t => exact PySem.P.repr_of_str ⟨.str _, H, I.tok _, ⟨_, rfl⟩, q⟩ h4
  | list e1 e2 e3 e4 =>
    exact repr_of_reads' (h₀ := s.heap) (.list e1 e2 e3 e4) h1 (fun _ => na) hg (by omega) (fun _ _ z => z) (fun h' u tk hk => ⟨.str _, H, I.kept (t' := tk) hk, ⟨_, rfl⟩, q⟩) h4
  | tuple e1 e2 e3 e4 =>
    exact repr_of_reads' (h₀ := s.heap) (.tuple e1 e2 e3 e4) h1 (fun _ => na) hg (by omega) (fun _ _ z => z) (fun h' u tk hk => ⟨.str _, H, I.kept (t' := tk) hk, ⟨_, rfl⟩, q⟩) h4
  | dict e1 e2 e3 e4 e5 =>
    exact repr_of_reads' (h₀ := s.heap) (.dict e1 e2 e3 e4 e5) h1 (fun _ => na) hg (by omega) (fun _ _ z => z) (fun h' u tk hk => ⟨.str _, H, I.kept (t' := tk) hk, ⟨_, rfl⟩, q⟩) h4
theorem cd_reprR : CallD F (rReprR F.K) gReprR := ⟨by
  intro N H vs ds Qd Q n r h k
  unfold gReprR at h
  split at h
  · rename_i d
    obtain ⟨v, r, rfl, h1, h2⟩ := r
    cases h2
    exact ⟨v, d, F.Z, N, rfl, h1, h.1, k _ _ _ Ext.refl rep_str h.2⟩
  · exact h.elim⟩
theorem d_reprR {p : Pos} (hK : F.K = X.K) (c : smB X.K = true) (hgd : X.A.guards = some []) (hu : X.A.units + 80 < cLine) (hg : Gl X "repr") (hm : X.mg "repr" = none) (ha : PA X (e :: es) (tDA F Tas))
    (he : starEach (e :: es) X.env = (false, eval e X.env) :: starEach es X.env := by rfl) (hpl : (backTo pos (starEach es X.env)).any (·.1) = false := by rfl) : PE X (.Call (.Name "repr" p) (e :: es) [] pos) (tD F (dCB gReprR Tas)) := by
  have z := cd_reprR (F := F)
  rw [hK] at z
  exact d_callB z (cr_reprR c hgd hu) hg hm (by decide +kernel) ha (by decide) (by decide) he hpl
/-! ### {}, {k: v} -/
theorem d_dict0 : PE X (.Dict [] [] pos) (tD F (dC (.dct [] []))) := PE.imp pe_dnewK (by
  rintro σ H Q ⟨N, env, Qd, f, hT, k⟩
  exact fun p hp => k _ _ (.dct [] []) (f.n.lay hp) ⟨p, [], rfl, f.n.fresh hp, upd_same, rfl, rfl⟩ hT)
def dDict1 (k : Key) (T : TDE) : TDE := fun ξ env Q => T ξ env fun d => Q (.dct [k] [d])
theorem d_dict1 {ke ve : Expr} {ky : Key} (hk : PE X ke (tC (kV ky))) (hv : PE X ve (tD F Ta)) : PE X (.Dict [some ke] [ve] pos) (tD F (dDict1 ky Ta)) := PE.imp (pe_disp (pps_cons hk hv pps_nil) rfl rfl (fun z => by cases z) (by show 1 ≤ 15; decide)) (by
  rintro σ H Q ⟨N, env, Qd, f, hT, k⟩
  intro p hp
  have np := f.n.fresh hp
  have fp := f.with (o := .dK []) kp_dk hp (f.nb hp)
  refine ⟨_, env, _, fp, hT, fun v H1 d e1 r1 q1 => ?_⟩
  have hp1 : H1 p = some (.dK []) := e1.keep p _ (fun z => np (f.n.z p z)) kp_dk upd_same
  refine ⟨hp1, [(ky, v)], rfl, (by show 1 ≤ 15; decide), ?_⟩
  have nz : ¬ InZ F.Z p := fun z => np (f.n.z p z)
  have ee : Ext F.Z H (upd H1 p (.dK (mergeK [] [(ky, v)]))) := by
    have e0 := (f.n.lay (o := .dK []) hp).trans e1
    refine ⟨fun q o n kp h => ?_, fun dk => ⟨fun a l ez => ?_, fun q hq => tab_upd hp1 kp_dk (fun _ h => by cases h) ((e0.deck dk).2 q hq)⟩⟩
    · rw [upd_ne (ne_of_none h hp)]
      exact e0.keep q o n kp h
    · obtain ⟨xs, m, c, k1, k2, k3⟩ := (e0.deck dk).1 a l ez
      exact ⟨xs, m, c, by rw [upd_ne (fun z => nz (by rw [← z]; exact ⟨a, l, ez, .inl rfl⟩))]; exact k1, by rw [upd_ne (fun z => nz (by rw [← z]; exact ⟨a, l, ez, .inr rfl⟩))]; exact k2, k3⟩
  refine k _ _ (.dct [ky] [d]) ee ⟨p, [v], rfl, np, ?_, rfl, v, [], rfl, ?_, rfl⟩ q1
  · rw [upd_same]
    rfl
  · refine Rep.mono (fun q o n kp h => ⟨?_, fun z => n (.inl z)⟩) d v r1
    rw [upd_ne (fun z => n (.inr z))]
    exact h)
/-! ### x[::-1] -/
section
variable {prog : Program} {w : World} {A : Around} {E : Value → Shared → Prop} {s : Shared}
theorem adjust_rev (n : Nat) : Builtin.Slice.sliceAdjust none none (-1) (n : Int) = ((n : Int) - 1, -1) := by
  unfold Builtin.Slice.sliceAdjust
  rfl
theorem places_rev (n : Nat) : Builtin.Slice.slicePlaces ((n : Int) - 1) (-1) (-1) = n := by
  unfold Builtin.Slice.slicePlaces
  rw [if_neg (by decide), show (- -1 : Int) = 1 by decide, Int.ediv_one]
  split <;> omega
theorem applied_rev {sl : Addr} {u : Tok} {n : Nat} {Q : Int × Int × Nat → Shared → Prop} (hs : s.heap.IsSliceOf sl .none .none (.int (-1) u)) (h : Q ((n : Int) - 1, -1, n) s) : wpAny (model prog w) A (Builtin.Slice.sliceApplied (.ref sl) (pure (n : Int))) Q E s := by
  obtain ⟨os, hos, hcs, hds⟩ := id hs
  unfold Builtin.Slice.sliceApplied Builtin.Slice.sliceFields
  refine wpAny_bind (wpAny_bind (wpAny_field hos hds (x := .none) rfl (wpAny_bind (wpAny_field hos hds (x := .none) rfl (wpAny_bind (wpAny_field hos hds (x := .int (-1) u) rfl (wpAny_pure ?_)))))))
  refine wpAny_bind (slicePart_int ?_)
  show wpAny _ _ (if ((-1 : Int) == 0) = true then _ else _) _ _ s
  rw [if_neg (by decide)]
  refine wpAny_bind (slicePart_none (wpAny_bind (slicePart_none (wpAny_bind (wpAny_pure ?_)))))
  show wpAny _ _ (match Builtin.Slice.sliceAdjust none none (-1) (n : Int) with | (lo, hi) => pure (lo, (-1 : Int), Builtin.Slice.slicePlaces lo hi (-1))) _ _ s
  rw [adjust_rev]
  show wpAny _ _ (pure ((n : Int) - 1, (-1 : Int), Builtin.Slice.slicePlaces ((n : Int) - 1) (-1) (-1))) _ _ s
  rw [places_rev]
  exact wpAny_pure h
theorem filterMap_on {α β : Type} {f g : α → Option β} : ∀ {l : List α}, (∀ m ∈ l, f m = g m) → l.filterMap f = l.filterMap g
  | [], _ => rfl
  | a :: l, h => by
    rw [List.filterMap_cons, List.filterMap_cons, h a List.mem_cons_self, filterMap_on fun m hm => h m (List.mem_cons_of_mem _ hm)]
theorem pick_rev (xs : Array Value) : ((List.range xs.size).filterMap fun (m : Nat) => xs[((xs.size : Int) - 1 + (m : Int) * (-1)).toNat]?).toArray = xs.toList.reverse.toArray := by
  congr 1
  have e : ((List.range xs.size).filterMap fun (m : Nat) => xs[((xs.size : Int) - 1 + (m : Int) * (-1)).toNat]?) = ((List.range xs.size).map fun m => xs.size - 1 - m).filterMap fun m => xs[m]? := by
    rw [List.filterMap_map]
    refine filterMap_on fun m hm => ?_
    have := List.mem_range.mp hm
    have e2 : ((xs.size : Int) - 1 + (m : Int) * (-1)).toNat = xs.size - 1 - m := by omega
    rw [e2]
    rfl
  rw [e, PySem.W.krv_range, List.filterMap_reverse, PySem.W.krv_all]
theorem getItem_tup_rev {t sl : Addr} {items : Array Value} {u : Tok} {Q : Value → Shared → Prop} (ht : IsTup s.heap t items) (hs : s.heap.IsSliceOf sl .none .none (.int (-1) u))
    (h : Q (.ref s.heap.objs.size) { s with heap := s.heap.push { cls := .type "tuple", data := .seq items.toList.reverse.toArray } }) (hsz : items.size ≤ sizeLine) : wpAny (model prog w) A (getItem (.ref t) (.ref sl)) Q E s := by
  have fits : sizeOk (.seq items.toList.reverse.toArray) := by
    show items.toList.reverse.toArray.size ≤ sizeLine
    simpa using hsz
  have hTs : s.TypeIs (.ref sl) "slice" := let ⟨os, hos, hcs, _⟩ := hs; ⟨os, hos, hcs⟩
  unfold getItem
  try with_reducible refine wpAny_holding ?_
  first | refine wpAny_bind (wpAny_pure ?_) | skip
  refine wpAny_bind (wpAny_sequenceKey ht.typeIs (by decide) ?_)
  refine wpAny_bind (wpAny_callSpecial?_slot (name := Str.ofString "__getitem__") ht.typeIs PyProof.Rows.slot_tuple_getitem (wpAny_call_entry PyProof.Rows.slot_tuple_getitem ht.typeIs entry_tuple_getitem ?_ (args_tuple_getitem _ _)))
  show wpAny _ _ (Builtin.Tuple.tupleItemsOf (.ref t) >>= _) _ _ s
  refine wpAny_bind (tupleItemsOf_ ht (wpAny_bind (wpAny_typeOf hTs ?_)))
  rw [if_pos (by decide)]
  refine wpAny_bind (applied_rev hs ?_)
  have no : ¬ ((((items.size : Int) - 1 == 0) && ((-1 : Int) == 1) && (items.size == items.size)) = true) := by
    intro q
    rw [Bool.and_eq_true, Bool.and_eq_true] at q
    exact absurd q.1.2 (by decide)
  show wpAny _ _ (if (((items.size : Int) - 1 == 0) && ((-1 : Int) == 1) && (items.size == items.size)) = true then _ else _) _ _ s
  rw [if_neg no, pick_rev]
  first
    | exact wpAny_bind (m := Builtin.Tuple.tupleExact _) (wpAny_newObj_type (wpAny_pure ⟨_, rfl, wpAny_pure h⟩) fits)
    | exact wpAny_bind (m := Builtin.Tuple.tupleExact _) (wpAny_newObj_type (wpAny_bind (wpAny_pure (wpAny_pure ⟨_, rfl, wpAny_pure h⟩))) fits)
    | exact wpAny_bind (wpAny_bind (m := Builtin.Tuple.tupleExact _) (wpAny_newObj_type (wpAny_pure (wpAny_pure ⟨_, rfl, wpAny_pure h⟩)) fits))
    | exact wpAny_bind (wpAny_bind (m := Builtin.Tuple.tupleExact _) (wpAny_newObj_type (wpAny_pure ⟨_, rfl, wpAny_pure h⟩) fits))
end
def tRevT (K : PySem.W.Frag) (te : TE) : TE := fun σ H Q => te σ H fun x H1 => ∃ a xs, x = .ref a ∧ SqT K H1 a xs ∧ ∀ p, H1 p = none → Q (.ref p) (upd H1 p (.tup xs.reverse))
theorem pe_revT {te : TE} {k : Nat} {p1 p2 p3 : Pos} (he : PE X e te) : PE X (.Subscript e (.Slice none none (some (.UnaryOp .USub (.Constant (.int 1) k p1) p2)) p3) pos) (tRevT X.K te) := by
  refine ⟨fun pins s σ H Q I h => ?_⟩
  refine Subscript_ (thn (he.run pins s σ H _ I h) fun v s1 ⟨x, H1, I1, r1, a, xs, ex, hx, q⟩ => ?_)
  subst ex
  cases r1
  have hst : PO X (some (.UnaryOp .USub (.Constant (.int 1) k p1) p2)) (tPart (tUn (rU fun i => .int (-i)) (tC (.int 1)))) := po_some (pe_un un_neg pe_int)
  refine wpAny_Slice (thn (po_none.run pins s1 σ H1 (fun o H2 => o = none ∧ H2 = H1) I1 ⟨rfl, rfl⟩) fun vl s2 ⟨l, H2, I2, pl, el, e2⟩ => thn (po_none.run pins s2 σ H2 (fun o H3 => o = none ∧ H3 = H2) I2 ⟨rfl, rfl⟩) fun vu s3 ⟨u, H3, I3, pu, eu, e3⟩ =>
    thn (hst.run pins s3 σ H3 (fun o H4 => o = some (-1) ∧ H4 = H3) I3 ⟨1, rfl, -1, rfl, rfl, rfl⟩) fun vs s4 ⟨o, H4, I4, ps, eo, e4⟩ => ?_)
  subst el e2 eu e3 eo e4
  cases pl
  cases pu
  obtain ⟨t, rfl⟩ : ∃ t, vs = Value.int (-1) t := by
    cases ps with
    | int i t => exact ⟨t, rfl⟩
  have I5 : L2.Inv X pins σ H4 { s4 with heap := s4.heap.push { cls := .type "slice", data := .fields #[.none, .none, .int (-1) t] } } := I4.kept (t' := s4.toks) fun b ob q => Heap.get?_push_of_some _ q
  obtain ⟨its, r, ht, hz⟩ := I5.tuple hx
  have hlen := r.length
  show wpAny (model X.prog X.w) X.A (subscriptTail e (.Slice none none (some (.UnaryOp .USub (.Constant (.int 1) k p1) p2)) p3) (.ref a) (.ref s4.heap.objs.size)) (EP X pins σ Q) X.xe { s4 with heap := s4.heap.push { cls := .type "slice", data := .fields #[.none, .none, .int (-1) t] } }
  refine tail_any (ops := [.ref a, .ref s4.heap.objs.size]) ht.typeIs (PyProof.Rows.slot_tuple_getitem.lookup) ?_ (by with_unfolding_all rfl)
  refine getItem_tup_rev ht (Heap.IsSliceOf.new _ _ _ _) ?_ (by rw [List.size_toArray]; omega)
  refine ⟨.ref _, _, I5.laid (t' := s4.toks) (o := .tup xs.reverse) (fun b ob q => Heap.get?_push_of_some _ q) (Nat.le_refl _) ?_, rfl, q _ (I5.hok.fresh (Nat.le_refl _))⟩
  exact ⟨by rw [List.length_reverse]; exact hz, its.reverse, r.reverse, _, Heap.get?_push_size _ rfl, rfl, 0, by simp⟩
def gRev : G1 := fun x Q => match x with
  | .tup ds => Q (.tup ds.reverse)
  | _ => False
theorem Reps.rev {K : PySem.W.Frag} {Z : Zn} {N : Addr → Prop} {H : Hp} : ∀ {ds : List D} {vs : List V}, Reps K Z N H ds vs → Reps K Z N H ds.reverse vs.reverse
  | [], _, h => by cases h; rfl
  | d :: ds, _, ⟨v, r, e, h1, h2⟩ => by
    subst e
    rw [List.reverse_cons, List.reverse_cons]
    exact (Reps.rev h2).snoc h1
/-- t[::-1] -/
theorem d_rev {k : Nat} {p1 p2 p3 : Pos} (hK : F.K = X.K) (he : PE X e (tD F Ta)) : PE X (.Subscript e (.Slice none none (some (.UnaryOp .USub (.Constant (.int 1) k p1) p2)) p3) pos) (tD F (dUn gRev Ta)) := PE.imp (pe_revT he) (by
  rintro σ H Q ⟨N, env, Qd, f, hT, kk⟩
  refine ⟨N, env, _, f, hT, fun x H1 d e1 r1 q1 => ?_⟩
  cases d <;> first | exact q1.elim | skip
  rename_i ds
  obtain ⟨a, vs, rfl, ra, rs⟩ := r1
  have n1 := (f.ext' e1).n
  exact ⟨a, vs, rfl, by rw [← hK]; exact sqt_of ra, fun p hp => kk _ _ (.tup ds.reverse) (e1.trans (n1.lay hp)) (rep_newT n1 hp rs.rev) q1⟩)
end
end DL
set_option Elab.async false
set_option linter.all false
set_option maxRecDepth 100000
set_option maxHeartbeats 2000000
/-! a lambda handed to a def that calls it, over data -/
namespace DL
open PySem PySem.Spec L2 LamX
open PyProof.Rows hiding St
theorem PE.exP {X : Cx} {e : Expr} {α : Sort _} {t : α → TE} (h : ∀ i, PE X e (t i)) : PE X e (fun σ H Q => ∃ i, t i σ H Q) := ⟨fun pins s σ H Q I ⟨i, q⟩ => (h i).run pins s σ H Q I q⟩
theorem PE.andP {X : Cx} {e : Expr} {p : Prop} {t : TE} (h : p → PE X e t) : PE X e (fun σ H Q => p ∧ t σ H Q) := ⟨fun pins s σ H Q I ⟨i, q⟩ => (h i).run pins s σ H Q I q⟩
theorem takes_lam {X : Cx} {A : Around} {outer : List Env} {s : Shared} {H : Hp} {E : XK} {scope : Scope} {f c' : Addr} : Takes (lamCx X A outer s H E scope f c') (fun c od _ H' => E c od H') := takes_of rfl rfl rfl rfl
/-- the maker's names, seen from the lambda: no list of the maker's own -/
def hide (env : SE) : SE := env.map fun s => match s with
  | .own _ => .un
  | s => s
theorem hide_get {env : SE} {i : Nat} {s : Slot} (h : (hide env)[i]? = some s) : s = .un ∨ (env[i]? = some s ∧ ∀ xs, s ≠ .own xs) := by
  unfold hide at h
  rw [List.getElem?_map] at h
  cases q : env[i]? with
  | none => rw [q] at h; cases h
  | some u =>
    rw [q] at h
    cases u with
    | own xs => cases h; exact .inl rfl
    | un => cases h; exact .inl rfl
    | d x => cases h; exact .inr ⟨rfl, fun xs z => by cases z⟩
    | raw v => cases h; exact .inr ⟨rfl, fun xs z => by cases z⟩
def dHole (v : V) (Tl : TDE) (env : SE) : TDE := fun ξ env' Q => env'[0]? = some (.raw v) ∧ Tl (fun x _ => ξ x env') (hide env) Q
def dLam (n : Nat) (Tt : TDE → TDS) (Tl : TDE) : TDE := fun _ env Q => ∀ v, Tt (dHole v Tl env) (fun _ _ => False) { nx := fun _ => Q .non, rt := Q } (.raw v :: List.replicate (n - 1) .un)
section
variable {X : Cx} {pins : List (Addr × Obj)} {σ : L2.St} {H : Hp} {s : Shared}
/-- the call of what was handed over -/
theorem pe_hole {Eg : XK} {Ng : List Str} {qg : Str} {sg : Scope} {g f c' : Addr} {cdg pm ctv : Value} {params : Arguments} {body : Expr} {scope : Scope} {k i : Nat} {a : Str} {pn : List (Addr × Obj)} {xe : Value → Shared → Prop} {W : WX} {tb : XK → TE} {p1 p2 : Pos} {CXg : CXT}
    (J : Inv X pins σ H s) (L : LamS X.env.scope scope) (ob : s.heap.get? f = some (PySem.W.kla_obj "<lambda>" (X.env.qual ++ "<lambda>") params body scope (cloFrom X.env.cells scope.names []) pm c' ctv)) (fr1 : H f = none) (fr2 : f ∉ frs X.stack)
    (bnd : bindArgs (PySem.W.kla_fn "<lambda>" (X.env.qual ++ "<lambda>") params body scope (cloFrom X.env.cells scope.names []) pm (.ref c') ctv) ⟨[], []⟩ = pure []) (room : RoomG (k + 1) (X.A.deeper (envOfC qg sg s.heap.objs.size g cdg)))
    (run : ∀ (A : Around) (outer : List Env) (s : Shared) (H : Hp) (E : XK), RoomG k (A.deeper (lamEnv X scope s.heap.objs.size f c')) → PE (lamCx X A outer s H E scope f c') body (tb E))
    (tk : Takes ((cxOf CXg X.prog X.w X.K X.mg X.base Ng qg sg g cdg X.A X.stack s H Eg).tr pn xe) W) (at_ : Ng[i]? = some a) (vis : Vis sg a) (nd : (a == ("__debug__" : Str)) = false) (nc : (a == ("__classdict__" : Str)) = false) :
    PE ((cxOf CXg X.prog X.w X.K X.mg X.base Ng qg sg g cdg X.A X.stack s H Eg).tr pn xe) (.Call (.Name a p1) [] [] p2)
      (fun σZ HZ Q => σZ[i]? = some (some (.ref f)) ∧ HZ c' = some (CodeO c' (X.env.qual ++ "<lambda>")) ∧ tb (WE W σZ) σ HZ Q) := by
  constructor
  rintro pinsZ sZ σZ HZ Q IZ ⟨atf, code, wish⟩
  refine wpAny_Call_Name_kw (thn ((pe_var (pos := p1) (i := i) at_ vis nd nc).run pinsZ sZ σZ HZ (fun v H1 => v = .ref f ∧ H1 = HZ) IZ ⟨.ref f, atf, rfl, rfl⟩) ?_)
  rintro u s1 ⟨v, H1, I1, r1, rfl, rfl⟩
  obtain rfl : u = Value.ref f := r1
  have still := I1.base.keep f _ ob fr1 fr2 (by intro z; cases z)
  refine PySem.W.callWith_F0 ⟨_, _, _, _, still⟩ ?_
  have grown : Un (frs X.stack) [] H H1 s.heap s1.heap := I1.base
  obtain ⟨⟨oc, vs, t, co1, co2, co3⟩, _, _⟩ := I1.hok c' _ code
  have ran : codeAny (model X.prog X.w) (X.A.deeper (envOfC qg sg s.heap.objs.size g cdg)) (.call (.ref f) ⟨[], []⟩) (CR (L2.CX X.prog X.w) (envOfC qg sg s.heap.objs.size g cdg :: X.stack) X.prog X.w H1 s1 Q (WE W σZ)) s1 := by
    refine PySem.W.kla_callFunE room.r.depth still rfl L.co L.gen rfl ⟨c', oc, vs, t, rfl, co1, co2, co3⟩ ?_
    rw [bnd]
    refine wpAny_pure (wpAny_newFunctionEnv (fun y hy => (L.own y hy).2) (by intro y hy; cases hy) ?_ L.kind)
    intro h₁ hns more
    refine ⟨I1.nolimit.fresh _ more, ?_⟩
    show codeAny _ _ (.expr body (lamEnv X scope s1.heap.objs.size f c')) _ _
    have kept : ∀ b o, s1.heap.get? b = some o → h₁.get? b = some o := fun b o e => more.extBut b o (Nat.ne_of_lt (Heap.lt_size e)) (Heap.get?_push_of_some _ e)
    have J2 : Inv (lamCx X (X.A.deeper (envOfC qg sg s.heap.objs.size g cdg)) (envOfC qg sg s.heap.objs.size g cdg :: X.stack) s1 H1 (WE W σZ) scope f c') [] σ H1 { s1 with heap := h₁, toks := s1.toks + 0 } :=
      lam_start2 J L I1.env0 room.r.hd grown hns kept
    refine PySem.W.kla_codeExpr (wpAny_mono ((run _ _ s1 H1 (WE W σZ) ⟨room.r.deeper _, guards_deeper room.g⟩).run [] _ _ H1 Q J2 wish) ?_ fun e s' z => z)
    rintro v s' ⟨v', H', J', rv, q⟩
    exact ⟨v', H', J'.os, J'.bare, J'.base, J'.hok, rv, q⟩
  have pas := passAt tk σZ
  refine wpAny_call (codeAny_mono ran ?_)
  rintro (e | fl) s' z
  · exact pas pinsZ H1 s1 e s' I1 z
  · cases fl with
    | ret u => exact I1.after z
    | next => exact z
    | brk => exact z
    | cont => exact z
end
section
variable {X : Cx} {F : FP}
theorem codeO_kp {c : Addr} {q : Str} : Kp (CodeO c q) := fun ps => codeO_ne ps
/-- f(lambda: body), where f calls it and lets nothing out -/
theorem d_lam {x a : Str} {g c P : Addr} {k : Nat} {pg : Arguments} {bg : List Stmt} {sg : Scope} {fdg : FuncData} {Ng : List Str} {params : Arguments} {body : Expr} {scope : Scope} {Tl : TDE} {Tt : TDE → TDS} {p lpos pos : Pos}
    (hK : F.K = X.K) (glo : Gl X x) (hm : X.mg x = some (.ref g)) (hk : PySem.W.keepIn X.K (.ref g) = true) (Fg : FunD X.K x x pg bg sg [] [] g fdg) (bb : Binds X.K fdg [a] []) (Sg : FnScope Ng [a] sg) (at_ : Ng[0]? = some a) (vis : Vis sg a)
    (told : ∀ (cdv : Value) (s : Shared) (H : Hp) (F2 : FP) (Th : TDE), F2.K = X.K → F2.ex = (fun _ _ => False) → RoomG (k + 1) (X.A.deeper (envOfC x sg s.heap.objs.size g cdv)) →
      (∀ (W : WX) (pn : List (Addr × Obj)) (xe : Value → Shared → Prop) (F' : FP) (p1 p2 : Pos), Takes ((cxOf CX0 X.prog X.w X.K X.mg X.base Ng x sg g cdv X.A X.stack s H E0).tr pn xe) W → Sub F2 F' → WOk F' W →
        PE ((cxOf CX0 X.prog X.w X.K X.mg X.base Ng x sg g cdv X.A X.stack s H E0).tr pn xe) (.Call (.Name a p1) [] [] p2) (tD F' Th)) →
      PSs (cxOf CX0 X.prog X.w X.K X.mg X.base Ng x sg g cdv X.A X.stack s H E0).nox bg (sD F2 (Tt Th)))
    (TB : TabB X.base X.mg c P) (code : X.env.code = .ref c) (mem : (P, X.env.qual ++ "<lambda>") ∈ tabsOf X.K) (uni : ∀ p ∈ tabsOf X.K, p.1 = P → p.2 = X.env.qual ++ "<lambda>") (room : RoomG (k + 2) X.A) (L : LamS X.env.scope scope) (defs : defaultsOf params X.env = ([], []))
    (bnd : ∀ (q : Str) (cl : List (Str × Addr)) (pm cv ctv : Value), bindArgs (PySem.W.kla_fn "<lambda>" q params body scope cl pm cv ctv) ⟨[], []⟩ = pure [])
    (run : ∀ (A : Around) (outer : List Env) (s : Shared) (H : Hp) (E : XK) (f c' : Addr) (F' : FP), F'.K = X.K → WOk F' (fun c od _ H' => E c od H') → RoomG k (A.deeper (lamEnv X scope s.heap.objs.size f c')) → PE (lamCx X A outer s H E scope f c') body (tD F' Tl))
    (ndx : (x == ("__debug__" : Str)) = false := by decide) (nd : (a == ("__debug__" : Str)) = false := by decide) (nc : (a == ("__classdict__" : Str)) = false := by decide) :
    PE X (.Call (.Name x p) [.Lambda params body scope lpos] [] pos) (tD F (dLam Ng.length Tt Tl)) := by
  constructor
  rintro pins s σ H Q I ⟨N, env, Qd, fk, hT, kk⟩
  refine wpAny_Call_Name_kw (ld_glob I glo hm (PySem.W.callWith_K (h₀ := X.base) I.ok.mod.kin hk ?_ (by rfl) (by rfl)) ndx)
  show wpAny _ _ (spliced ((false, eval (.Lambda params body scope lpos) X.env) :: backTo pos (starEach [] X.env))) _ _ s
  have tabs : Tabs (tabsOf X.K) H := by
    have z := fk.n.deck.2
    rwa [fk.n.tb, hK] at z
  refine Calls.spliced_cons (lam_make2 I TB code mem uni tabs defs (L.has I.ok) ?_)
  intro f c' pm' ctv H1 s' I1 eN T1 ob fr1 fr2 hco
  refine Calls.spliced_nil ⟨I1.kIn, ?_⟩
  have e : Ext F.Z H H1 := ⟨fun q o _ kp h => eN q o h kp, fun dk => ⟨fun b l z => by
    obtain ⟨xs, m, n, h1, h2, h3⟩ := dk.1 b l z
    exact ⟨xs, m, n, eN _ _ h1 kp_dk, eN _ _ h2 kp_lst, h3⟩, by rw [fk.n.tb, hK]; exact T1⟩⟩
  have f1 := fk.ext' e
  obtain ⟨oc, od, dV, kV, doc, pm, an, cdv, ct, osl, efd, lk, hcd, _, _⟩ := Fg.ex
  subst efd
  have ran : codeAny (model X.prog X.w) X.A (.call (.ref g) ⟨[.ref f], []⟩) (CR CX0 X.stack X.prog X.w H1 s' Q E0) s' := by
    refine run_ofS (N := Ng) (ps := [a]) (us := [.ref f]) (vs := [.ref f]) lk hcd Sg room.r I1.env0 (bb s' [.ref f] I1.kIn rfl) (.cons rfl .nil) rfl fun r2 => ?_
    have room2 : RoomG (k + 1) (X.A.deeper (envOfC x sg s'.heap.objs.size g cdv)) := ⟨r2, guards_deeper room.g⟩
    refine ⟨_, (told cdv s' H1 ⟨F.K, F.Z, N, H1, fun _ _ => False, N, H1⟩ (dHole (.ref f) Tl env) hK rfl room2 ?_).nox, N, _, _, ⟨⟨f1.n.deck, .refl, fun _ z => z, f1.n.z, f1.n.all, fun _ h n => (n h).elim, .refl, f1.n.tb⟩, ?_, ?_, ?_⟩, hT (.ref f), ?_⟩
    · intro W pn xe F' p1 p2 tk sub wo
      have hk' : F'.K = X.K := sub.k.trans hK
      refine PE.imp (pe_hole (i := 0) (tb := fun E σ H Q => ∃ Fe : FP, (Fe.K = X.K ∧ WOk Fe (fun c od _ H' => E c od H')) ∧ tD Fe Tl σ H Q) I1 L ob fr1 fr2 (bnd _ _ _ _ _) room2 (fun A outer s H E r3 => PE.exP fun Fe => PE.andP fun z => run A outer s H E f c' Fe z.1 z.2 r3) tk at_ vis nd nc) ?_
      rintro σZ HZ Q2 ⟨N', env', Qd', f', ⟨h0, hl⟩, k'⟩
      refine ⟨f'.slot 0 _ h0, ?_, ⟨F'.K, F'.Z, N', HZ, fun x _ => F'.ex x env', N', HZ⟩, ⟨hk', ?_⟩, N', hide env, Qd', ⟨⟨f'.n.deck, .refl, fun _ z => z, f'.n.z, f'.n.all, fun _ h n => (n h).elim, .refl, f'.n.tb⟩, ?_, ?_, ?_⟩, hl, k'⟩
      · have z1 := f'.n.ext
        rw [sub.h, sub.z] at z1
        refine z1.keep c' _ ?_ codeO_kp hco
        rintro ⟨b, l, z, q⟩
        obtain ⟨xs, m, n, h1, h2, h3⟩ := f1.n.deck.1 b l z
        unfold CodeO at hco
        rcases q with q | q <;> rw [q] at hco
        · rw [h1] at hco; cases hco
        · rw [h2] at hco; cases hco
      · intro N3 σ3 H3 env3 y cl od f3 xr hx
        exact wo N' σZ H3 env' y cl od (f'.ext' f3.n.ext) (xr.less f3.n.sub) hx
      · rw [show (hide env).length = env.length from List.length_map _]
        exact fk.len
      · intro i sl hs
        rcases hide_get hs with rfl | ⟨h4, h5⟩
        · trivial
        · have z := f1.slot i sl h4
          have ev : Evo N H1 N' HZ := Evo.trans sub.g f'.n.gr
          cases sl with
          | un => trivial
          | own xs => exact (h5 xs rfl).elim
          | raw v => exact z
          | d y =>
            obtain ⟨v, z1, z2⟩ := z
            refine ⟨v, z1, ?_⟩
            show Rep F'.K F'.Z N' HZ y v
            rw [sub.k, sub.z]
            exact Rep.mono ev y v z2
      · intro i j q xs ys _ h4
        rcases hide_get h4 with z | ⟨_, z⟩
        · cases z
        · exact (z xs rfl).elim
    · obtain ⟨n, hn⟩ : ∃ n, Ng.length = n + 1 := ⟨Ng.length - 1, by have := (List.getElem?_eq_some_iff.mp at_).1; omega⟩
      simp [L2.start, hn]
    · intro i sl hs
      match i, hs with
      | 0, hs =>
        cases hs
        rfl
      | i + 1, hs =>
        have z : sl = .un := (List.mem_replicate.mp (List.mem_of_getElem? (show (List.replicate (Ng.length - 1) Slot.un)[i]? = some sl from hs))).2
        subst z
        trivial
    · intro i j q xs ys _ h4
      match i, h4 with
      | 0, h4 => cases h4
      | i + 1, h4 => cases (List.mem_replicate.mp (List.mem_of_getElem? (show (List.replicate (Ng.length - 1) Slot.un)[i]? = some (.own xs) from h4))).2
    · exact ⟨fun N' σ' H' env' f' _ q => kk _ _ _ (e.trans f'.n.ext) rep_non q, fun v H' d e' r' q => kk v H' d (e.trans e') r' q, fun _ _ _ _ _ _ q => q.elim, fun _ _ _ _ _ _ q => q.elim⟩
  refine wpAny_call (codeAny_mono ran ?_)
  rintro (er | fl) s2 z
  · exact (show False from z).elim
  · cases fl with
    | ret u => exact I1.after z
    | next => exact z
    | brk => exact z
    | cont => exact z
end
section
variable {P : Program} {w : World} {K : PySem.W.Frag} {mg : Str → Option Value} {base : Heap} {k : Nat} {f : Addr} {fd : FuncData} {N ps : List Str}
/-- a def that lets nothing out and makes lambdas: its code object is told -/
theorem fng_dataC {x qual n : Str} {params : Arguments} {body : List Stmt} {scope : Scope} {dvs : List V} {kws : List (Str × V)} {T : TDS} (Fd : FunD K x qual params body scope dvs kws f fd) (S : FnScope N ps scope) (ef : f = He.fAd K (n, none))
    (hb : ∀ (cdv : Value) (A : Around) (outer : List Env) (s : Shared) (H : Hp) (E : XK) (F : FP), F.K = K → F.ex = (fun _ _ => False) → RoomG k (A.deeper (envOfC qual scope s.heap.objs.size f cdv)) → cdv = .ref (He.cT K (n, none)).1 →
      PSs (cxOf CX0 P w K mg base N qual scope f cdv A outer s H E).nox body (sD F T)) : FnG P w K mg base CX0 (k + 1) f fd ps (spD K ps.length fun _ ds Q => tfOf N.length T (fun _ => False) ds Q) := by
  refine fng_ofC Fd S ?_ ?_
  · rintro vs H Q E ⟨Z, B, ds, Qd, Ed, b, r, hl, _⟩
    rw [← r.length, hl]
  rintro cdv A outer s H vs Q E room ⟨hcd, hcv⟩ ⟨Z, B, ds, Qd, Ed, b, r, hl, hT, hq, _⟩
  have key : cdv = .ref (He.cT K (n, none)).1 := by
    obtain ⟨c, rfl⟩ := He.codeIn_ref hcd
    obtain ⟨oc, od, dV, kV, doc, pm, an, cdv', ct, osl, efd, lk, _, _, _⟩ := Fd.ex
    subst ef
    rw [show (He.cT K (n, none)).1 = He.codeOf K (n, none) from rfl, He.codeOf_eq (p := (n, none)) lk hcv]
  refine ⟨_, (hb cdv A outer s H E ⟨K, Z, B, H, fun _ _ => False, B, H⟩ rfl rfl room key).nox, ?_⟩
  exact ⟨B, _, _, start_ok b r, hT, ⟨fun N' σ' H' env' f' _ q => hq _ _ _ f'.n.ext rep_non q, fun v H' d e r' q => hq v H' d e r' q, fun _ _ _ _ _ _ q => q.elim, fun _ _ _ _ _ _ q => q.elim⟩⟩
end
section
variable {X : Cx} {F : FP} {a e elt iter : Expr} {ifs : List Expr} {scope : Scope} {own : List (Str × Nat)} {pos p pos' spos py : Pos} {tg : Expr} {Ta : TDE} {Tas : TDA} {tt : TDT} {te : TDE} {i j : Nat} {y : Str}
theorem setLc_imp {T : TDE} {ta : TE} (h : ∀ σ H Q, tD F T σ H Q → ta σ H Q) : ∀ De σ H, sD F (dAsg T (dgName i)) De σ H → tAsg ta (gName i) De σ H := by
  rintro De σ H ⟨N, env, Dd, f, hT, ok⟩
  exact h _ _ _ ⟨N, env, _, f, hT, fun v H' d e1 r q => ok.nx _ _ _ _ ((f.ext' e1).set i r) (.of f.n e1) q⟩
/-- y = [.. for .. in range(n)], on one line, y no cell -/
theorem ds_setLcR (hK : F.K = X.K) (hc : X.calm = true) (hN : X.N.Nodup) (hgl : Gl X "range") (hm : X.mg "range" = none) (ha : PA X [a] (tDA F Tas)) (ok : BlkOk X.N X.env.scope scope own) (hv : own.map (·.2) = [j]) (hy : X.N[i]? = some y) (hyl : X.env.scope.names.lookup y = some .local)
    (hsw : swapsWith (.ListComp elt [⟨tg, .Call (.Name "range" p) [a] [] pos', ifs, 0⟩] scope pos) (some (.Name y py)) spos.line X.env = pure true)
    (hg : ∀ (s : Shared) (H : Hp) (C : Addr) (cl : List (Str × Addr)) (fp : List Addr), PG (X.blk s H scope (compEnvC scope cl C X.env) fp) tg (gName j)) (ht : ∀ (s : Shared) (H : Hp) (C : Addr) (cl : List (Str × Addr)) (fp : List Addr), PTs (X.blk s H scope (compEnvC scope cl C X.env) fp) ifs (tDT F.calm tt))
    (he : ∀ (s : Shared) (H : Hp) (C : Addr) (cl : List (Str × Addr)) (fp : List Addr), PE (X.blk s H scope (compEnvC scope cl C X.env) fp) elt (tD F.calm te)) (hsa : starEach [a] X.env = [(false, eval a X.env)] := by rfl) (hs : ∀ x, foldedSetIterable (.Call (.Name "range" p) [a] [] pos') X.env x = pure x := by intro _; rfl) :
    PS X (.Assign [.Name y py] (.ListComp elt [⟨tg, .Call (.Name "range" p) [a] [] pos', ifs, 0⟩] scope pos) spos) (sD F (dAsg (dLcR Tas j tt te) (dgName i))) := by
  have z := ps_setLc hc hN hy hyl hsw (pi_range1 hgl hm ha hsa) ok hg ht he hs
  rw [hv] at z
  exact PS.imp z (setLc_imp lcR_imp)
theorem ds_setLcL (hK : F.K = X.K) (hc : X.calm = true) (hN : X.N.Nodup) (hi : PE X iter (tD F Ta)) (ok : BlkOk X.N X.env.scope scope own) (hv : own.map (·.2) = [j]) (hy : X.N[i]? = some y) (hyl : X.env.scope.names.lookup y = some .local)
    (hsw : swapsWith (.ListComp elt [⟨tg, iter, ifs, 0⟩] scope pos) (some (.Name y py)) spos.line X.env = pure true)
    (hg : ∀ (s : Shared) (H : Hp) (C : Addr) (cl : List (Str × Addr)) (fp : List Addr), PG (X.blk s H scope (compEnvC scope cl C X.env) fp) tg (gName j)) (ht : ∀ (s : Shared) (H : Hp) (C : Addr) (cl : List (Str × Addr)) (fp : List Addr), PTs (X.blk s H scope (compEnvC scope cl C X.env) fp) ifs (tDT F.calm tt))
    (he : ∀ (s : Shared) (H : Hp) (C : Addr) (cl : List (Str × Addr)) (fp : List Addr), PE (X.blk s H scope (compEnvC scope cl C X.env) fp) elt (tD F.calm te)) (hs : ∀ x, foldedSetIterable iter X.env x = pure x := by intro _; rfl) :
    PS X (.Assign [.Name y py] (.ListComp elt [⟨tg, iter, ifs, 0⟩] scope pos) spos) (sD F (dAsg (dLc Ta j tt te) (dgName i))) := by
  have z := ps_setLc hc hN hy hyl hsw (pi_list hi) ok hg ht he hs
  rw [hv] at z
  exact PS.imp z (setLc_imp (by rw [← hK]; exact lc_imp))
theorem ds_setLcT (hK : F.K = X.K) (hc : X.calm = true) (hN : X.N.Nodup) (hi : PE X iter (tD F Ta)) (ok : BlkOk X.N X.env.scope scope own) (hv : own.map (·.2) = [j]) (hy : X.N[i]? = some y) (hyl : X.env.scope.names.lookup y = some .local)
    (hsw : swapsWith (.ListComp elt [⟨tg, iter, ifs, 0⟩] scope pos) (some (.Name y py)) spos.line X.env = pure true)
    (hg : ∀ (s : Shared) (H : Hp) (C : Addr) (cl : List (Str × Addr)) (fp : List Addr), PG (X.blk s H scope (compEnvC scope cl C X.env) fp) tg (gName j)) (ht : ∀ (s : Shared) (H : Hp) (C : Addr) (cl : List (Str × Addr)) (fp : List Addr), PTs (X.blk s H scope (compEnvC scope cl C X.env) fp) ifs (tDT F.calm tt))
    (he : ∀ (s : Shared) (H : Hp) (C : Addr) (cl : List (Str × Addr)) (fp : List Addr), PE (X.blk s H scope (compEnvC scope cl C X.env) fp) elt (tD F.calm te)) (hs : ∀ x, foldedSetIterable iter X.env x = pure x := by intro _; rfl) :
    PS X (.Assign [.Name y py] (.ListComp elt [⟨tg, iter, ifs, 0⟩] scope pos) spos) (sD F (dAsg (dLcT Ta j tt te) (dgName i))) := by
  have z := ps_setLc hc hN hy hyl hsw (pi_tup hi) ok hg ht he hs
  rw [hv] at z
  exact PS.imp z (setLc_imp (by rw [← hK]; exact lcT_imp))
end
end DL
set_option Elab.async false
set_option linter.all false
set_option maxRecDepth 100000
set_option maxHeartbeats 2000000
/-! is None; facts; the head with tables -/
namespace DL
open PySem PySem.Spec L2 LamX
open PyProof.Rows hiding St
section
variable {X : Cx} {F : FP} {a b : Expr} {Ta Tb : TDE} {pos : Pos}
def isNo : D → Bool
  | .non => true
  | _ => false
def gIsN : G2 := fun x y Q => match y with
  | .non => Q (.bl (isNo x))
  | _ => False
theorem isNo_rep {K : PySem.W.Frag} {Z : Zn} {N : Addr → Prop} {H : Hp} {d : D} {v : V} (r : Rep K Z N H d v) : decide (v = V.non) = isNo d := by
  cases d with
  | non => rw [show v = V.non from r]; rfl
  | bl b => rw [show v = V.bl b from r]; rfl
  | int b => rw [show v = V.int b from r]; rfl
  | str b => rw [show v = V.str b from r]; rfl
  | tup ds => obtain ⟨p, vs, rfl, _⟩ := r; rfl
  | lst ds => obtain ⟨p, vs, rfl, _⟩ := r; rfl
  | dct ks ds => obtain ⟨p, vs, rfl, _⟩ := r; rfl
  | deck => obtain ⟨p, l, _, rfl⟩ := r; rfl
  | ty n => rw [show v = V.ty n from r]; rfl
theorem opd_isN : OpD F (fun x y H Q => y = .non ∧ Q (.bl (decide (x = .non))) H) gIsN := ⟨by
  intro N H x y dx dy Qd Q n rx ry h k
  unfold gIsN at h
  split at h
  · refine ⟨ry, ?_⟩
    rw [isNo_rep rx]
    exact k _ _ _ Ext.refl rep_bl h
  · exact h.elim⟩
theorem d_isn (ha : PE X a (tD F Ta)) (hb : PE X b (tD F Tb)) (hm : behindInMarks .Is b = false := by rfl) : PE X (.Compare a [.Is] [b] pos) (tD F (dBin gIsN Ta Tb)) := d_cmp op_isN opd_isN ha hb hm
theorem dt_isn (ha : PE X a (tD F Ta)) (hb : PE X b (tD F Tb)) (hm : behindInMarks .Is b = false := by rfl) : PT X (.Compare a [.Is] [b] pos) (tDT F (dTest (dBin gIsN Ta Tb))) := dt_cmp op_isN opd_isN ha hb hm
end
section
variable {X : Cx} {F : FP} {a : Expr} {Ta : TDE}
/-- an int or a bool as a test -/
def truI : D → Option Bool
  | .bl b => some b
  | .int i => some (i != 0)
  | _ => none
def dTruI (T : TDE) : TDT := fun ξ env Q => T ξ env fun d => match truI d with
  | some b => Q b
  | none => False
theorem dt_tru (ha : PE X a (tD F Ta)) (he : ∀ whole, isTrue a X.env whole = (do let v ← whole; standAt a.pos; holding [v] (truthy v)) := by intro _; rfl) : PT X a (tDT F (dTruI Ta)) := PT.imp (pt_truth ha he) (by
  rintro σ H Q ⟨N, env, Qd, f, hT, k⟩
  refine ⟨N, env, _, f, hT, fun v H1 d e1 r q => ?_⟩
  unfold truI at q
  cases d <;> first | exact q.elim | skip
  · rename_i b
    exact ⟨b, by rw [show v = V.bl b from r]; exact rfl, k _ _ e1 q⟩
  · rename_i i
    exact ⟨_, by rw [show v = V.int i from r]; exact rfl, k _ _ e1 q⟩)
end
/-! ### facts -/
def exisB (K : PySem.W.Frag) (n : Str) : Bool := match PySem.W.nsIn K mainGlobals n with
  | some (some (.ref C)) => xfB K C && (PySem.W.clsIn K C).isSome && decide (PySem.W.findIn K (.ref C) "__class__" = some (some (.builtin "object.__class__"))) && decide (PySem.W.specialIn K (.builtin "object.__class__") "__get__" = some (some (.builtin "getset_descriptor.__get__"))) &&
    decide (PySem.W.takesIn K (.builtin "object.__class__") = some true) && decide (PySem.W.mroIn K C (.type "object") = some true)
  | _ => false
theorem exis_ok {K : PySem.W.Frag} {n : Str} (c : exisB K n = true) : ∃ C, clsAt K n = .ref C ∧ ExIs K C := by
  unfold exisB at c
  split at c
  · rename_i C e
    simp only [Bool.and_eq_true, decide_eq_true_eq] at c
    obtain ⟨⟨⟨⟨⟨c1, c2⟩, c3⟩, c4⟩, c5⟩, c6⟩ := c
    exact ⟨C, by unfold clsAt; rw [e], xfB_ok c1, c2, c3, c4, c5, c6⟩
  · cases c
def refB (K : PySem.W.Frag) (n : Str) : Bool := match PySem.W.nsIn K mainGlobals n with
  | some (some (.ref _)) => true
  | _ => false
theorem ref_ok {K : PySem.W.Frag} {h : Heap} {mg : Str → Option Value} (X : K.In h) (G : h.Ns mainGlobals mg) {n : Str} (c : refB K n = true) : ∃ a, clsAt K n = .ref a ∧ mg n = some (.ref a) := by
  unfold refB at c
  split at c
  · rename_i a e
    exact ⟨a, by unfold clsAt; rw [e], PySem.W.mg_of X G e⟩
  · cases c
def initOf (s : Stmt) : Stmt := match s with
  | .ClassDef _ _ _ body _ _ _ _ _ _ _ => body.getD 0 s
  | s => s
theorem fng_false {P : Program} {w : World} {K : PySem.W.Frag} {mg : Str → Option Value} {base : Heap} {CX : CXT} {k : Nat} {f : Addr} {fd : FuncData} {ps : List Str} {m : Nat} : FnG P w K mg base CX k f fd ps (spD K m fun _ _ _ => False) :=
  ⟨fun _ _ _ _ ⟨_, _, _, _, _, _, _, _, h, _⟩ => h.elim, fun _ _ _ _ _ _ _ _ _ _ _ _ _ ⟨_, _, _, _, _, _, _, _, h, _⟩ => h.elim⟩
def kitB (K : PySem.W.Frag) (n m : Str) (b : Bool) : Bool := decide (PySem.W.kitOne K (clsAt K n) (clsAt K m) = some b)
/-- the names of the defs that make lambdas are TN -/
def tabNB (K : PySem.W.Frag) (TN : List Str) : Bool := decide (lamDefs.filter (hasDef K) = TN)
def tabP (K : PySem.W.Frag) (n : Str) : Addr := (He.cT K (n, none)).2
def tab1B (K : PySem.W.Frag) (n : Str) : Bool := decide ((tabP K n, lamQ n) ∈ tabsOf K) && (tabsOf K).all fun p => !decide (p.1 = tabP K n) || decide (p.2 = lamQ n)
structure TabF (K : PySem.W.Frag) (n : Str) : Prop where
  mem : (tabP K n, lamQ n) ∈ tabsOf K
  uni : ∀ p ∈ tabsOf K, p.1 = tabP K n → p.2 = lamQ n
theorem tab1_ok {K : PySem.W.Frag} {n : Str} (c : tab1B K n = true) : TabF K n := by
  unfold tab1B at c
  simp only [Bool.and_eq_true, decide_eq_true_eq, List.all_eq_true, Bool.or_eq_true, Bool.not_eq_true', decide_eq_false_iff_not] at c
  exact ⟨c.1, fun p hp e => (c.2 p hp).resolve_left fun z => z e⟩
abbrev TBs (K : PySem.W.Frag) (mg : Str → Option Value) (base : Heap) (TN : List Str) : Prop := ∀ n ∈ TN, TabB base mg (He.cT K (n, none)).1 (He.cT K (n, none)).2
/-! ### the head -/
section
variable {P : Program} {w : World} {K : PySem.W.Frag} {mg mb : Str → Option Value} {CX : CXT} {k : Nat} {fa a : Addr} {fd : FuncData} {x : Str} {sp : Sp} {s₁ : Shared} {vs : List Value} {ns : List Int}
def startT (K : PySem.W.Frag) (a : Addr) (vs : List Value) (ns : List Int) (ts : List Addr) : Hp := fun b => if b ∈ ts then some (.tbl #[]) else startH K a vs ns b
theorem startT_at {ts : List Addr} {b : Addr} {u : HO} (h : startT K a vs ns ts b = some u) : (b ∈ ts ∧ u = .tbl #[]) ∨ (K.lookup a = none ∧ b = a ∧ u = .frz { cls := .type "list", data := .seq vs.toArray } (.lst (ns.map V.int))) := by
  unfold startT at h
  split at h
  · rename_i hb
    exact .inl ⟨hb, (Option.some.inj h).symm⟩
  · exact .inr (startH_at h)
theorem law_callT {cs : List (Addr × Addr)} (KX : K.In s₁.heap) (hns : s₁.heap.Ns mainGlobals mg) (hb : s₁.heap.Ns builtinsNs mb) (hbb : ∀ x : Str, x ≠ "__name__" → mb x = bootBuiltins x) (hlim : s₁.heap.NoLimit) (hg : s₁.gens = #[])
    (eT : ∀ p ∈ cs, s₁.heap.get? p.2 = some { cls := .none, data := .fields #[] }) (oT : ∀ p ∈ cs, K.lookup p.2 = none) (cT : ∀ p ∈ cs, PySem.W.CodeHd s₁.heap p.1 p.2)
    (bmain : ∃ (bm : Addr) (ob : Obj), mg "__builtins__" = some (.ref bm) ∧ bm ≠ builtinsNs ∧ s₁.heap.get? bm = some ob ∧ ob.cls = .type "module" ∧ ob.dict = some builtinsNs ∧ ob.data = .plain)
    (ha : s₁.heap.get? a = some { cls := .type "list", data := .seq vs.toArray }) (hi : IntsAre vs ns) (hl : ns.length ≤ sizeLine) (hr : RoomG k callerA)
    (F : ∀ base : Heap, K.In base → base.Ns mainGlobals mg → (∀ p ∈ cs, TabB base mg p.1 p.2) → FnG P w K mg base CX k fa fd [x] sp) (hbind : ∀ (s : Shared) (u : Value), BindsTo s fd ⟨[u], []⟩ [(x, u)])
    (hsp : ∀ H : Hp, (∀ p ∈ cs, H p.2 = some (.tbl #[])) → SqL K H a (ns.map V.int) → sp [.ref a] H (fun v _ => v = .bl true) fun _ _ _ => False) (hCX : ∀ H e s', CX [] H s₁ (fun _ _ _ => False) e s' → False) :
    codeAny (model P w) callerA (.call (.ref fa) ⟨[.ref a], []⟩) (fun r s' => r = .ok (.ret (.bool true)) ∧ OldK s₁.heap s'.heap ∧ s'.os = s₁.os ∧ AllBare s'.gens) s₁ := by
  have rel := vals_ints hi
  have hlen : ns.length = vs.length := hi.length.symm
  have memT : ∀ p ∈ cs, p.2 ∈ cs.map Prod.snd := fun p hp => List.mem_map_of_mem hp
  have tabAt : ∀ b ∈ cs.map Prod.snd, s₁.heap.get? b = some { cls := .none, data := .fields #[] } := by
    intro b hb
    obtain ⟨p, hp, rfl⟩ := List.mem_map.mp hb
    exact eT p hp
  have notT : a ∉ cs.map Prod.snd := by
    intro z
    have e := tabAt a z
    rw [ha] at e
    injection e with e
    injection e with _ _ e _
    cases e
  generalize eH : startT K a vs ns (cs.map Prod.snd) = H
  have at_ : ∀ {b : Addr} {u : HO}, H b = some u → (b ∈ cs.map Prod.snd ∧ u = .tbl #[]) ∨ (K.lookup a = none ∧ b = a ∧ u = .frz { cls := .type "list", data := .seq vs.toArray } (.lst (ns.map V.int))) := fun {b u} h => startT_at (by rw [eH]; exact h)
  have free : ∀ {b : Addr}, b ≠ a → b ∉ cs.map Prod.snd → H b = none := fun {b} h h2 => by
    cases q : H b with
    | none => rfl
    | some u =>
      rcases at_ q with z | z
      · exact absurd z.1 h2
      · exact absurd z.2.1 h
  have tabH : ∀ p ∈ cs, H p.2 = some (.tbl #[]) := fun p hp => by
    rw [← eH]
    exact if_pos (memT p hp)
  have held : HOk P w H s₁.heap := fun b u e => by
    rcases at_ e with ⟨z, rfl⟩ | ⟨_, rfl, rfl⟩
    · exact tabAt b z
    · exact ⟨ha, by rw [List.length_map]; exact hl, vs, _, rel, ha⟩
  have script : SqL K H a (ns.map V.int) := by
    cases q : K.lookup a with
    | none =>
      refine .inl (.inr ⟨{ cls := .type "list", data := .seq vs.toArray }, ?_⟩)
      rw [← eH]
      unfold startT startH
      rw [if_neg notT, q]
      exact if_pos rfl
    | some o =>
      have e := KX a o q
      rw [ha] at e
      cases e
      exact .inr ⟨_, vs.toArray, _, q, rfl, rfl, rfl, by rw [List.size_toArray, ← hlen]; exact hl, by simpa using rel⟩
  have plainB : ∀ {b : Addr} {o : Obj}, s₁.heap.get? b = some o → (∀ (us : Array Value) (m : Nat), o.data ≠ .seq us m) → o.data ≠ .fields #[] → H b = none := fun {b o} e h1 h2 => free (fun z => by
    subst z
    rw [ha] at e
    cases e
    exact h1 _ _ rfl) fun z => by
    rw [tabAt b z] at e
    cases e
    exact h2 rfl
  have ns' : ∀ {b : Addr} {m : Str → Option Value}, s₁.heap.Ns b m → (hidT s₁.heap H).Ns b m := fun {b m} ⟨o, es, ep, e, d, r⟩ => ⟨o, es, ep, hidT_get e (plainB e (by intro _ _ z; rw [d] at z; cases z) (by intro z; rw [d] at z; cases z)), d, r⟩
  have inK : K.In (hidT s₁.heap H) := fun b o e => hidT_get (KX b o e) (by
    cases q : H b with
    | none => rfl
    | some u =>
      rcases at_ q with ⟨h1, _⟩ | ⟨h1, h2, _⟩
      · obtain ⟨p, hp, rfl⟩ := List.mem_map.mp h1
        rw [oT p hp] at e
        cases e
      · rw [h2, h1] at e
        cases e)
  have tabs : ∀ p ∈ cs, TabB (hidT s₁.heap H) mg p.1 p.2 := by
    intro p hp
    have hT := eT p hp
    have gP : mainGlobals ≠ p.2 := by
      obtain ⟨o, es, ep, e, d, _⟩ := hns
      intro z
      rw [z, hT] at e
      cases e
      cases d
    refine ⟨?_, ?_, gP⟩
    · obtain ⟨o, us, file, tf, flags, tg, inF, text, tt, e1, r1, r2, r3, rest⟩ := cT p hp
      refine ⟨o, us, file, tf, flags, tg, inF, text, tt, hidT_get e1 (plainB e1 ?_ ?_), r1, r2, r3, rest⟩
      · intro _ _ z; rw [r2] at z; cases z
      · intro z
        rw [r2] at z
        cases z
        simp at r3
    · obtain ⟨bm, ob, b1, b2, b3, b4, b5, b6⟩ := bmain
      refine ⟨bm, ob, b1, b2, ?_, ?_, hidT_get b3 (plainB b3 ?_ ?_), b4, b5, b6⟩
      · obtain ⟨o, es, ep, e, d, _⟩ := hns
        intro z
        rw [z, e] at b3
        cases b3
        rw [d] at b6
        cases b6
      · intro z
        rw [z, hT] at b3
        cases b3
        cases b6
      · intro _ _ z; rw [b6] at z; cases z
      · intro z; rw [b6] at z; cases z
  obtain ⟨mc, l1, l2⟩ := hlim
  have e0 : Env0 P w K mg (hidT s₁.heap H) callerA [] s₁ H :=
    ⟨rfl, ⟨inK, ns' hns, ⟨mb, ns' hb, hbb⟩, mc, ns' l1, l2⟩, fun b o e => of_hidT e, Nat.le_of_eq (hidT_size _ _), trivial, (fun b h => by cases h), held, .of_eq hg⟩
  refine codeAny_mono ((F _ inK (ns' hns) tabs).run callerA [] s₁ H ⟨[.ref a], []⟩ [.ref a] [.ref a] _ _ hr e0 (hbind s₁ (.ref a)) (.cons rfl .nil) (hsp H tabH script)) ?_
  rintro (e | fl) s' h
  · exact (hCX H e s' h).elim
  cases fl with
  | next => cases h
  | brk => cases h
  | cont => cases h
  | ret u =>
    obtain ⟨v, H', os, bare, un, hok', r', q⟩ := h
    have q' : v = .bl true := q
    subst q'
    obtain rfl : u = Value.bool true := r'
    have same : ∀ b o, b ∉ cs.map Prod.snd → s₁.heap.get? b = some o → s'.heap.get? b = some o := by
      intro b o nb e
      cases q : H b with
      | none => exact un.keep b o e q (by intro z; cases z) (by intro z; cases z)
      | some u =>
        rcases at_ q with z | ⟨_, rfl, rfl⟩
        · exact absurd z.1 nb
        · obtain ⟨e2, _⟩ := hok' b _ (un.frzs b _ _ q)
          rw [ha] at e
          cases e
          exact e2
    have wider : ∀ p ∈ cs, ∃ more : Array Value, s'.heap.get? p.2 = some { cls := .none, data := .fields more } := by
      intro p hp
      obtain ⟨more, z⟩ := un.tbls p.2 #[] (tabH p hp)
      exact ⟨_, hok' p.2 _ z⟩
    refine ⟨rfl, ⟨?_, ?_⟩, os, bare⟩
    · intro b o e
      by_cases nb : b ∈ cs.map Prod.snd
      · obtain ⟨p, hp, rfl⟩ := List.mem_map.mp nb
        obtain ⟨more, z⟩ := wider p hp
        rw [eT p hp] at e
        cases e
        exact .inr (.inl ⟨((cT p hp).tab (eT p hp)).isCodeTable, rfl, #[], more, rfl, by rw [Array.empty_append]; exact z⟩)
      · exact .inl (same b o nb e)
    · intro b o e
      by_cases nb : b ∈ cs.map Prod.snd
      · obtain ⟨p, hp, rfl⟩ := List.mem_map.mp nb
        obtain ⟨more, z⟩ := wider p hp
        exact ⟨_, z⟩
      · exact ⟨o, same b o nb e⟩
end
theorem walk_ofT {l : PySem.W.OpenLaw} {n k : Nat} {q : Program} {loose : List Str} {XP : (Str → Option Value) → Heap → Prop} {YP : World → Heap → Prop} {d : DefRec} {x : Str}
    (hn : l.most = some n) (hn2 : n ≤ sizeLine) (hdf : d.params.defaults = []) (hr : RoomG k callerA)
    (F : ∀ (w : World) (mg : Str → Option Value) (fa : Addr) (h : Heap), YP w h → h.Ns mainGlobals mg → mg d.name = some (.ref fa) →
      ∃ (K : PySem.W.Frag) (fd : FuncData) (cs : List (Addr × Addr)) (sp : Sp), K.In h ∧ ((∀ p ∈ cs, h.get? p.2 = some { cls := .none, data := .fields #[] }) ∧ (∀ p ∈ cs, K.lookup p.2 = none) ∧ ∀ p ∈ cs, PySem.W.CodeHd h p.1 p.2) ∧ (∀ (s : Shared) (u : Value), BindsTo s fd ⟨[u], []⟩ [(x, u)]) ∧
        (∀ (H : Hp) (a : Addr) (ns : List Int), ns.length ≤ n → (∀ p ∈ cs, H p.2 = some (.tbl #[])) → SqL K H a (ns.map V.int) → sp [.ref a] H (fun v _ => v = .bl true) fun _ _ _ => False) ∧
        ∀ base : Heap, K.In base → base.Ns mainGlobals mg → (∀ p ∈ cs, TabB base mg p.1 p.2) → FnG l.prog w K mg base CX0 k fa fd [x] sp) :
    PySem.W.WalkO q loose XP YP l.row.toRowW d [] (fun f vs => PySem.call f vs) :=
  Att.attach_callB hn hdf fun w s₀ s₁ mg mb fa o pm cd doc a vs ns G Y ho hd hcd hmg hobj hints hlen _ hg =>
    let ⟨_, _, _, _, KX, hT, hb, hsp, hF⟩ := F w mg fa _ Y G.T.g hmg
    law_callT KX G.T.g G.T.b G.T.builtins G.T.nolimit hg hT.1 hT.2.1 hT.2.2 G.T.bmain hobj hints (Nat.le_trans hlen hn2) hr hF hb (fun H hH hS => hsp H a ns hlen hH hS) fun _ _ _ z => z
def obsF (n : Nat) (fa : List He.Fa) (fn : List He.DefD) (TN : List Str) (ex : PySem.W.Frag → Bool) (g : Addr → Option Obj) : He.AlD × Bool :=
  (He.obsD fa fn (He.frT g (He.asD g n ++ [cStatics, sysModules])), ex (He.frT g (He.asD g n ++ [cStatics, sysModules])) && He.tabsB g (TN.map fun n => (n, none)) (He.frT g (He.asD g n ++ [cStatics, sysModules])))
structure SaysF (fa : List He.Fa) (fn : List He.DefD) (TN : List Str) (ex : PySem.W.Frag → Bool) (h : Heap) (K : PySem.W.Frag) : Prop where
  d : He.SaysD fa fn K
  ex : ex K = true
  hd : ∀ n ∈ TN, PySem.W.codeHdIn K (He.cT K (n, none)).1 (He.cT K (n, none)).2 = true
  out : ∀ n ∈ TN, K.lookup (He.cT K (n, none)).2 = none
  emp : ∀ n ∈ TN, h.get? (He.cT K (n, none)).2 = some { cls := .none, data := .fields #[] }
theorem saysF_of {n : Nat} {fa : List He.Fa} {fn : List He.DefD} {TN : List Str} {ex : PySem.W.Frag → Bool} {h : Heap} (e : obsF n fa fn TN ex h.get? = (He.valD fn, true)) : SaysF fa fn TN ex h (He.frT h.get? (He.asD h.get? n ++ [cStatics, sysModules])) := by
  have e1 := congrArg (fun z : He.AlD × Bool => z.1) e
  have e2 := congrArg (fun z : He.AlD × Bool => z.2) e
  unfold obsF at e1 e2
  dsimp only at e1 e2
  obtain ⟨x1, x2⟩ := Bool.and_eq_true_iff.mp e2
  have all : ∀ m ∈ TN, PySem.W.codeHdIn (He.frT h.get? (He.asD h.get? n ++ [cStatics, sysModules])) (He.cT (He.frT h.get? (He.asD h.get? n ++ [cStatics, sysModules])) (m, none)).1 (He.cT (He.frT h.get? (He.asD h.get? n ++ [cStatics, sysModules])) (m, none)).2 = true ∧
      ∃ o, h.get? (He.cT (He.frT h.get? (He.asD h.get? n ++ [cStatics, sysModules])) (m, none)).2 = some o ∧ He.emptyTab o = true := by
    intro m hm
    unfold He.tabsB at x2
    obtain ⟨y1, y2⟩ := Bool.and_eq_true_iff.mp (List.all_eq_true.mp x2 (m, none) (List.mem_map.mpr ⟨m, hm, rfl⟩))
    refine ⟨y1, ?_⟩
    split at y2
    · rename_i o z
      exact ⟨o, z, y2⟩
    · cases y2
  exact ⟨e1, x1, fun m hm => (all m hm).1, fun m hm => let ⟨_, _, z, q⟩ := all m hm; He.frT_none z q, fun m hm => by
    obtain ⟨_, o, z, q⟩ := all m hm
    rw [z, He.emptyTab_eq q]⟩
def hookF (n : Nat) (fa : List He.Fa) (fn : List He.DefD) (TN : List Str) (ex : PySem.W.Frag → Bool) : PySem.W.Hook where
  α := He.AlD × Bool
  obs := fun s => obsF n fa fn TN ex s.heap.get?
  val := fun _ => (He.valD fn, true)
  says := fun _ h => ∃ K : PySem.W.Frag, K.In h ∧ SaysF fa fn TN ex h K
  of := fun _ _ e => ⟨_, He.frT_in, saysF_of e⟩
  keeps := fun _ _ _ ⟨K, hK, c⟩ k => ⟨K, PySem.W.Frag.In.keeps hK k, ⟨c.d, c.ex, c.hd, c.out, fun p hp => k _ _ (c.emp p hp)⟩⟩
theorem obsF_eq {n : Nat} {fa : List He.Fa} {fn : List He.DefD} {TN : List Str} {ex : PySem.W.Frag → Bool} {g : Addr → Option Obj} {s : Shared} (h : ∀ a, g a = s.heap.get? a) : obsF n fa fn TN ex g = (hookF n fa fn TN ex).obs s := by
  have e : g = s.heap.get? := funext h
  subst e
  rfl
theorem cs_ok {fa : List He.Fa} {fn : List He.DefD} {TN : List Str} {ex : PySem.W.Frag → Bool} {h : Heap} {K : PySem.W.Frag} (KX : K.In h) (c : SaysF fa fn TN ex h K) :
    (∀ p ∈ TN.map (fun n => He.cT K (n, none)), h.get? p.2 = some { cls := .none, data := .fields #[] }) ∧ (∀ p ∈ TN.map (fun n => He.cT K (n, none)), K.lookup p.2 = none) ∧ ∀ p ∈ TN.map (fun n => He.cT K (n, none)), PySem.W.CodeHd h p.1 p.2 := by
  refine ⟨?_, ?_, ?_⟩ <;> intro p hp <;> obtain ⟨n, hn, rfl⟩ := List.mem_map.mp hp
  · exact c.emp n hn
  · exact c.out n hn
  · exact PySem.W.codeHd_of_K KX (c.hd n hn)
theorem tbs_of {K : PySem.W.Frag} {mg : Str → Option Value} {base : Heap} {TN : List Str} (h : ∀ p ∈ TN.map (fun n => He.cT K (n, none)), TabB base mg p.1 p.2) : TBs K mg base TN := fun n hn => h _ (List.mem_map.mpr ⟨n, hn, rfl⟩)
/-- the tables at the start are tables -/
theorem tabs_start {K : PySem.W.Frag} {TN : List Str} {H : Hp} (c : tabNB K TN = true) (h : ∀ p ∈ TN.map (fun n => He.cT K (n, none)), H p.2 = some (.tbl #[])) : Tabs (tabsOf K) H := by
  intro p hp
  unfold tabsOf at hp
  rw [of_decide_eq_true c] at hp
  obtain ⟨n, hn, rfl⟩ := List.mem_map.mp hp
  exact TabS.nil (h _ (List.mem_map.mpr ⟨n, hn, rfl⟩))
end DL
set_option Elab.async false
set_option linter.all false
set_option maxRecDepth 100000
set_option maxHeartbeats 2000000
/-! a list of the def's own, made by a comprehension on one line -/
namespace DL
open PySem PySem.Spec L2
open PyProof.Rows hiding St
section
variable {X : Cx} {F : FP} {a e elt iter : Expr} {ifs : List Expr} {scope : Scope} {own : List (Str × Nat)} {pos p pos' spos py : Pos} {tg : Expr} {Ta : TDE} {Tas : TDA} {tt : TDT} {te : TDE} {i j : Nat} {y : Str}
theorem ownLc_imp {T : TDL} {ta : TE} (h : ∀ σ H Q, tDL F T σ H Q → ta σ H Q) : ∀ De σ H, sD F (dOwn T i) De σ H → tAsg ta (gName i) De σ H := by
  rintro De σ H ⟨N, env, Dd, f, hT, ok⟩
  exact h _ _ _ ⟨N, env, _, f, hT, fun q vs H' ds n w => ok.nx _ _ _ _ (n.own i) (n.evo f.n) w⟩
theorem ds_ownLcR (hK : F.K = X.K) (hc : X.calm = true) (hN : X.N.Nodup) (hgl : Gl X "range") (hm : X.mg "range" = none) (ha : PA X [a] (tDA F Tas)) (ok : BlkOk X.N X.env.scope scope own) (hv : own.map (·.2) = [j]) (hy : X.N[i]? = some y) (hyl : X.env.scope.names.lookup y = some .local)
    (hsw : swapsWith (.ListComp elt [⟨tg, .Call (.Name "range" p) [a] [] pos', ifs, 0⟩] scope pos) (some (.Name y py)) spos.line X.env = pure true)
    (hg : ∀ (s : Shared) (H : Hp) (C : Addr) (cl : List (Str × Addr)) (fp : List Addr), PG (X.blk s H scope (compEnvC scope cl C X.env) fp) tg (gName j)) (ht : ∀ (s : Shared) (H : Hp) (C : Addr) (cl : List (Str × Addr)) (fp : List Addr), PTs (X.blk s H scope (compEnvC scope cl C X.env) fp) ifs (tDT F.calm tt))
    (he : ∀ (s : Shared) (H : Hp) (C : Addr) (cl : List (Str × Addr)) (fp : List Addr), PE (X.blk s H scope (compEnvC scope cl C X.env) fp) elt (tD F.calm te)) (hsa : starEach [a] X.env = [(false, eval a X.env)] := by rfl) (hs : ∀ x, foldedSetIterable (.Call (.Name "range" p) [a] [] pos') X.env x = pure x := by intro _; rfl) :
    PS X (.Assign [.Name y py] (.ListComp elt [⟨tg, .Call (.Name "range" p) [a] [] pos', ifs, 0⟩] scope pos) spos) (sD F (dOwn (lLcR Tas j tt te) i)) := by
  have z := ps_setLc hc hN hy hyl hsw (pi_range1 hgl hm ha hsa) ok hg ht he hs
  rw [hv] at z
  exact PS.imp z (ownLc_imp lcR_impL)
theorem ds_ownLcL (hK : F.K = X.K) (hc : X.calm = true) (hN : X.N.Nodup) (hi : PE X iter (tD F Ta)) (ok : BlkOk X.N X.env.scope scope own) (hv : own.map (·.2) = [j]) (hy : X.N[i]? = some y) (hyl : X.env.scope.names.lookup y = some .local)
    (hsw : swapsWith (.ListComp elt [⟨tg, iter, ifs, 0⟩] scope pos) (some (.Name y py)) spos.line X.env = pure true)
    (hg : ∀ (s : Shared) (H : Hp) (C : Addr) (cl : List (Str × Addr)) (fp : List Addr), PG (X.blk s H scope (compEnvC scope cl C X.env) fp) tg (gName j)) (ht : ∀ (s : Shared) (H : Hp) (C : Addr) (cl : List (Str × Addr)) (fp : List Addr), PTs (X.blk s H scope (compEnvC scope cl C X.env) fp) ifs (tDT F.calm tt))
    (he : ∀ (s : Shared) (H : Hp) (C : Addr) (cl : List (Str × Addr)) (fp : List Addr), PE (X.blk s H scope (compEnvC scope cl C X.env) fp) elt (tD F.calm te)) (hs : ∀ x, foldedSetIterable iter X.env x = pure x := by intro _; rfl) :
    PS X (.Assign [.Name y py] (.ListComp elt [⟨tg, iter, ifs, 0⟩] scope pos) spos) (sD F (dOwn (lLc Ta j tt te) i)) := by
  have z := ps_setLc hc hN hy hyl hsw (pi_list hi) ok hg ht he hs
  rw [hv] at z
  exact PS.imp z (ownLc_imp (by rw [← hK]; exact lc_impL))
end
/-! ### [e for x, y in zip(a, b)], a and b tuples of one length -/
def zipD : List D → List D → List D
  | x :: xs, y :: ys => .tup [x, y] :: zipD xs ys
  | _, _ => []
theorem zipD_len : ∀ {xs ys : List D}, xs.length = ys.length → (zipD xs ys).length = xs.length
  | [], [], _ => rfl
  | _ :: xs, _ :: ys, h => by
    show (zipD xs ys).length + 1 = xs.length + 1
    rw [zipD_len (by simpa using h)]
  | [], _ :: _, h => by cases h
  | _ :: _, [], h => by cases h
theorem zipD_get : ∀ {xs ys : List D} {i : Nat} {x y : D}, xs[i]? = some x → ys[i]? = some y → (zipD xs ys)[i]? = some (.tup [x, y])
  | x :: xs, y :: ys, 0, _, _, h1, h2 => by cases h1; cases h2; rfl
  | x :: xs, y :: ys, i + 1, _, _, h1, h2 => by
    show (zipD xs ys)[i]? = _
    exact zipD_get (by simpa using h1) (by simpa using h2)
  | [], _, _, _, _, h1, _ => by simp at h1
  | _ :: _, [], _, _, _, _, h2 => by simp at h2
abbrev gZ (j l : Nat) : TDG := dgTup 2 (dgCons (dgName j) (dgCons (dgName l) dgNil))
abbrev rZ (K : PySem.W.Frag) (j l : Nat) : TG := gTup K 2 (gCons (gName j) (gCons (gName l) gNil))
section
variable {X : Cx} {F : FP} {Ta : TDE} {Tas : TDA} {N : Addr → Prop} {σ : L2.St} {H1 H' : Hp} {env : SE} {A : Addr} {tt : TDT} {te : TDE} {all : List D} {Qd : D → Prop} {j l : Nat}
theorem wipe2 {x y : Option V} (hjl : j ≠ l) : L2.wipe (((L2.wipe σ [j, l]).set j x).set l y) [j, l] = L2.wipe σ [j, l] := by
  show ((((((σ.set l none).set j none).set j x).set l y).set l none).set j none) = (σ.set l none).set j none
  refine List.ext_getElem? fun k => ?_
  simp only [List.getElem?_set, List.length_set]
  by_cases e1 : j = k <;> by_cases e2 : l = k <;> simp [e1, e2]
theorem lc_turnZ (f : FOk F N σ H1 env) (hA : H1 A = none) (hjl : j ≠ l) (hz : all.length ≤ sizeLine) {i : Nat} {dx dy : D} {x y : V} {T : Addr} (hd : all[i]? = some (.tup [dx, dy])) (rx : Rep F.K F.Z N H1 dx x) (rye : Rep F.K F.Z N H1 dy y) (L : LcAt F N H1 A (gZ j l) tt te (wipeD env [j, l]) all Qd i H') (hT : H' T = none) :
    rZ F.K j l (.ref T) (L2.wipe σ [j, l]) (upd H' T (.tup [x, y])) fun σ2 H2 => L2.wipe σ2 [j, l] = L2.wipe σ [j, l] ∧ tDT F.calm tt σ2 H2 fun b H3 =>
      if b = true then tD F.calm te σ2 H3 fun y H4 => ∃ acc, H4 A = some (.lst acc) ∧ acc.length < sizeLine ∧ LcAt F N H1 A (gZ j l) tt te (wipeD env [j, l]) all Qd (i + 1) (upd H4 A (.lst (acc ++ [y]))) else LcAt F N H1 A (gZ j l) tt te (wipeD env [j, l]) all Qd (i + 1) H3 := by
  obtain ⟨ext, acc, ds, h1, h2, h3, h4⟩ := L
  obtain ⟨hi, e⟩ := List.getElem?_eq_some_iff.mp hd
  rw [List.drop_eq_getElem_cons hi, e] at h4
  obtain ⟨_, h4⟩ := h4
  have f0 : FOk F (fun q => N q ∨ q = A) (L2.wipe σ [j, l]) H' (wipeD env [j, l]) := (f.with' kp_lst hA ext h1).wipe [j, l]
  have lT : Ext F.Z H' (upd H' T (.tup [x, y])) := f0.n.lay hT
  have f1 := f0.ext' lT
  have xT := ext.trans lT
  have hAT : upd H' T (.tup [x, y]) A = some (.lst acc) := by rw [upd_ne (ne_of_none h1 hT)]; exact h1
  have mv : ∀ r u, ¬ N r → Kp u → H1 r = some u → upd H' T (.tup [x, y]) r = some u ∧ ¬ (N r ∨ r = A) := fun r u n k h => ⟨xT.keep r u (fun z => n (f.n.z r z)) k h, fun z => z.elim n (ne_of_none h hA)⟩
  have r1 : Rep F.K F.Z (fun q => N q ∨ q = A) (upd H' T (.tup [x, y])) dx x := Rep.mono mv dx x rx
  have r2 : Rep F.K F.Z (fun q => N q ∨ q = A) (upd H' T (.tup [x, y])) dy y := Rep.mono mv dy y rye
  have nz : ∀ p, InZ F.Z p → p ≠ A := fun p z e => by
    obtain ⟨o, q, _⟩ := f.n.all p (f.n.z p z)
    rw [e, hA] at q; cases q
  refine ⟨T, [x, y], rfl, sqt_of (N := fun _ => False) (.inl ⟨fun z => z, upd_same⟩), rfl, x, [y], rfl, y, [], rfl, rfl, ?_⟩
  refine ⟨wipe2 hjl, ?_⟩
  refine ⟨_, _, _, (((f1.set j r1).set l r2)).wish _, h4, fun b H3 e3 q3 => ?_⟩
  have x3 := xT.trans e3
  have a3 : H3 A = some (.lst acc) := e3.keep A _ (fun z => nz A z rfl) kp_lst hAT
  have f3 := f1.ext' e3
  by_cases hb : b = true
  · subst hb
    rw [if_pos rfl] at q3
    refine iteT ?_
    refine ⟨_, _, _, (((f1.set j r1).set l r2).ext' e3).wish _, q3, fun y H4 dy e4 ry q4 => ?_⟩
    have a4 : H4 A = some (.lst acc) := e4.keep A _ (fun z => nz A z rfl) kp_lst a3
    have x4 := x3.trans e4
    refine ⟨acc, a4, by omega, ⟨fun p o n k h => ?_, fun dk => ?_⟩, acc ++ [y], ds ++ [dy], upd_same, by simp; omega, ?_, ?_⟩
    · rw [upd_ne (ne_of_none h hA)]
      exact x4.keep p o n k h
    · refine ⟨fun a l ez => ?_, fun p hp => ?_⟩
      · obtain ⟨xs, m, c, k1, k2, k3⟩ := (x4.deck dk).1 a l ez
        exact ⟨xs, m, c, by rw [upd_ne (nz a ⟨a, l, ez, .inl rfl⟩)]; exact k1, by rw [upd_ne (nz l ⟨a, l, ez, .inr rfl⟩)]; exact k2, k3⟩
      · exact tab_upd a4 kp_lst (fun _ h => by cases h) ((x4.deck dk).2 p hp)
    · have mv4 : ∀ r u, ¬ (N r ∨ r = A) → Kp u → H4 r = some u → upd H4 A (.lst (acc ++ [y])) r = some u ∧ ¬ (N r ∨ r = A) := fun r u n _ h => ⟨by rw [upd_ne (fun z => n (.inr z))]; exact h, n⟩
      have h4' : Reps F.K F.Z (fun q => N q ∨ q = A) H4 ds acc := ((h3.ext lT f0.n.z).ext e3 f1.n.z).ext e4 f1.n.z
      exact (Reps.mono mv4 _ _ h4').snoc (Rep.mono mv4 _ _ ry)
    · have : (fun ys => Qd (.lst (ds ++ [dy] ++ ys))) = fun ys => Qd (.lst (ds ++ dy :: ys)) := by
        funext ys; rw [List.append_assoc]; rfl
      rw [this]
      exact q4
  · rw [Bool.not_eq_true] at hb
    subst hb
    rw [if_neg Bool.false_ne_true] at q3
    refine iteF ?_
    exact ⟨x3, acc, ds, a3, by omega, (h3.ext lT f0.n.z).ext e3 f1.n.z, q3⟩
theorem lc_endZ {env0 : SE} (f : FOk F N σ H1 env) (hA : H1 A = none) {G : TDG} {H0 : Hp} {Q : VK} (e : Ext F.Z H0 H1) (k : ∀ v H' d, Ext F.Z H0 H' → Rep F.K F.Z N H' d v → Qd d → Q v H') {n : Nat} (hn : all.length = n) (L : LcAt F N H1 A G tt te env0 all Qd n H') : Q (.ref A) H' := by
  obtain ⟨ext, acc, ds, h1, h2, h3, h4⟩ := L
  rw [← hn, List.drop_length] at h4
  have h4 : Qd (.lst (ds ++ [])) := h4
  rw [List.append_nil] at h4
  exact k _ _ (.lst ds) (e.trans ext) ⟨A, acc, rfl, f.n.fresh hA, h1, h3.less fun p z => .inl z⟩ h4
def dLcZ (T : TDA) (j l : Nat) (tt : TDT) (te : TDE) : TDE := fun ξ env Q => T ξ env fun ds => match ds with
  | [.tup xs, .tup ys] => (xs.length = ys.length ∧ xs.length ≤ sizeLine) ∧ lcD (gZ j l) tt te (wipeD env [j, l]) (zipD xs ys) fun zs => Q (.lst zs)
  | _ => False
theorem lcZ_imp (hjl : j ≠ l) : ∀ σ H Q, tD F (dLcZ Tas j l tt te) σ H Q → tLc (RZ.iZipA F.K (tDA F Tas)) (rZ F.K j l) (tDT F.calm tt) (tD F.calm te) [j, l] σ H Q := by
  rintro σ H Q ⟨N, env, Qd, f, hT, k⟩
  refine ⟨N, env, _, f, hT, fun vs H1 ds e1 r q => ?_⟩
  split at q
  · rename_i xs ys
    obtain ⟨v1, _, rfl, ⟨a, us, rfl, ra, rs⟩, v2, _, rfl, ⟨b, ws, rfl, rb, rs2⟩, rfl⟩ := r
    have f1 := f.ext' e1
    obtain ⟨⟨hl, hz⟩, q⟩ := q
    have l1 := rs.length
    have l2 := rs2.length
    have lz : (zipD xs ys).length = us.length := by rw [zipD_len hl, l1]
    refine ⟨a, b, us, ws, rfl, .inr ⟨sqt_of ra, sqt_of rb, fun A hA => ?_⟩⟩
    refine ⟨fun i m H' => m = us.length - i ∧ i ≤ us.length ∧ LcAt F N H1 A (gZ j l) tt te (wipeD env [j, l]) (zipD xs ys) Qd i H', ⟨us.length, rfl, Nat.zero_le _, lc_start f1.n hA q⟩, ?_⟩
    rintro i m H' ⟨rfl, hi, L⟩
    have qa : SqT F.K H' a us := by
      refine sqt_of (N := N) ?_
      rcases ra with ⟨n, ra⟩ | ra
      · exact .inl ⟨n, L.ext.keep a _ (fun z => n (f.n.z a z)) kp_tup ra⟩
      · exact .inr ra
    have qb : SqT F.K H' b ws := by
      refine sqt_of (N := N) ?_
      rcases rb with ⟨n, rb⟩ | rb
      · exact .inl ⟨n, L.ext.keep b _ (fun z => n (f.n.z b z)) kp_tup rb⟩
      · exact .inr rb
    by_cases hlt : i < us.length
    · have hx : us[i]? = some us[i] := List.getElem?_eq_getElem hlt
      have hlt2 : i < ws.length := by omega
      have hy : ws[i]? = some ws[i] := List.getElem?_eq_getElem hlt2
      refine .inr ⟨⟨us, ws, _, _, qa, qb, hx, hy⟩, fun H2 => LcAt F N H1 A (gZ j l) tt te (wipeD env [j, l]) (zipD xs ys) Qd (i + 1) H2, fun H2 p => ⟨us.length - (i + 1), by omega, rfl, hlt, p⟩, ?_⟩
      rintro v H2 ⟨T, x', y', rfl, hT', rfl, g1, g2⟩
      obtain ⟨dx, hdx, rdx⟩ := rs.getV (g1 us qa)
      obtain ⟨dy, hdy, rdy⟩ := rs2.getV (g2 ws qb)
      exact lc_turnZ f1 hA hjl (by omega) (zipD_get hdx hdy) rdx rdy L hT'
    · have e : i = us.length := by omega
      subst e
      exact .inl ⟨⟨us, ws, qa, qb, .inl (Nat.le_refl _)⟩, lc_endZ f1 hA e1 k lz L⟩
  · exact q.elim
variable {a b elt : Expr} {elts ifs : List Expr} {kk : Nat} {scope : Scope} {own : List (Str × Nat)} {pos p pos' tpos : Pos}
theorem d_lcZ (hK : F.K = X.K) (hc : X.calm = true) (hN : X.N.Nodup) (hjl : j ≠ l) (hgl : Gl X "zip") (hm : X.mg "zip" = none) (ha : PA X [a, b] (tDA F Tas)) (ok : BlkOk X.N X.env.scope scope own) (hv : own.map (·.2) = [j, l])
    (hg : ∀ (s : Shared) (H : Hp) (C : Addr) (cl : List (Str × Addr)) (fp : List Addr), PG (X.blk s H scope (compEnvC scope cl C X.env) fp) (.Tuple elts kk tpos) (rZ X.K j l)) (ht : ∀ (s : Shared) (H : Hp) (C : Addr) (cl : List (Str × Addr)) (fp : List Addr), PTs (X.blk s H scope (compEnvC scope cl C X.env) fp) ifs (tDT F.calm tt))
    (he : ∀ (s : Shared) (H : Hp) (C : Addr) (cl : List (Str × Addr)) (fp : List Addr), PE (X.blk s H scope (compEnvC scope cl C X.env) fp) elt (tD F.calm te)) (hs1 : starEach [a, b] X.env = (false, eval a X.env) :: starEach [b] X.env := by rfl) (hpl : (backTo pos' (starEach [b] X.env)).any (·.1) = false := by rfl)
    (hs : ∀ x, foldedSetIterable (.Call (.Name "zip" p) [a, b] [] pos') X.env x = pure x := by intro _; rfl) :
    PE X (.ListComp elt [⟨.Tuple elts kk tpos, .Call (.Name "zip" p) [a, b] [] pos', ifs, 0⟩] scope pos) (tD F (dLcZ Tas j l tt te)) := by
  have z := pe_lc (pos := pos) hc hN (RZ.pi_zipA hgl hm ha hs1 hpl) ok hg ht he hs
  rw [hv] at z
  exact PE.imp z (by rw [← hK]; exact lcZ_imp hjl)
end
end DL
set_option Elab.async false
set_option linter.all false
set_option maxRecDepth 100000
/-! what can be shown, by weight -/
namespace DL
open PySem PySem.Spec L2
/-- signs that are signs -/
def Cs (x : Str) : Prop := ∀ c ∈ x.cps.toList, c < 16 ^ 8
theorem cs_of (s : String) : Cs (Str.ofString s) := by
  intro c h
  rw [Str.ofString_eq_toList] at h
  obtain ⟨x, _, rfl⟩ := List.mem_map.mp h
  exact x.val.toNat_lt
theorem Cs.app {x y : Str} (h : Cs x) (g : Cs y) : Cs (x ++ y) := by
  intro c m
  have e : (x ++ y).cps.toList = x.cps.toList ++ y.cps.toList := by
    show (x.cps ++ y.cps).toList = _
    exact Array.toList_append
  rw [e] at m
  exact (List.mem_append.mp m).elim (h c) (g c)
theorem cs_from : ∀ (ts : List Str) (k : Nat) (acc : Str), Cs acc → (∀ t ∈ ts, Cs t) → Cs (textFrom k acc ts)
  | [], _, _, h, _ => h
  | t :: ts, k, acc, h, g => cs_from ts (k + 1) _ ((h.app (cs_of _)).app (g t List.mem_cons_self)) fun u m => g u (List.mem_cons_of_mem _ m)
theorem cs_list {ts : List Str} (g : ∀ t ∈ ts, Cs t) : Cs (listText ts) := (cs_from ts 0 _ (cs_of _) g).app (cs_of _)
theorem cs_join : ∀ (ts : List Str), (∀ t ∈ ts, Cs t) → Cs (Str.join ", " ts)
  | [], _ => cs_of ""
  | [t], g => g t List.mem_cons_self
  | t :: u :: r, g => ((g t List.mem_cons_self).app (cs_of _)).app (cs_join (u :: r) fun x m => g x (List.mem_cons_of_mem _ m))
theorem cs_tuple {ts : List Str} (g : ∀ t ∈ ts, Cs t) : Cs (tupleText ts) := ((cs_of "(").app (cs_join ts g)).app (cs_of _)
theorem cs_dict {ts : List Str} (g : ∀ t ∈ ts, Cs t) : Cs (dictText ts) := ((cs_of "{").app (cs_join ts g)).app (cs_of _)
theorem cs_char {q c : Nat} (hq : q < 16 ^ 8) (hc : c < 16 ^ 8) : ∀ x ∈ Builtin.Str.reprChar q c, x < 16 ^ 8 := by
  have hx : ∀ (n : Nat), ∀ x ∈ (List.replicate (n - ((Nat.toDigits 16 c).map Char.toNat).length) 48 ++ (Nat.toDigits 16 c).map Char.toNat), x < 16 ^ 8 := by
    intro n x m
    rcases List.mem_append.mp m with m | m
    · have := (List.mem_replicate.mp m).2
      subst this
      decide
    · obtain ⟨y, _, rfl⟩ := List.mem_map.mp m
      exact y.val.toNat_lt
  have small : ∀ {x a b : Nat}, x ∈ [a, b] → a < 16 ^ 8 → b < 16 ^ 8 → x < 16 ^ 8 := by
    intro x a b m h1 h2
    rcases List.mem_cons.mp m with rfl | m
    · exact h1
    · rcases List.mem_cons.mp m with rfl | m
      · exact h2
      · cases m
  intro x m
  unfold Builtin.Str.reprChar at m
  dsimp only at m
  repeat' split at m
  all_goals first
    | exact small m (by decide) hc
    | exact small m (by decide) (by decide)
    | (rcases List.mem_cons.mp m with rfl | m
       · exact hc
       · cases m)
    | (rcases List.mem_append.mp m with m | m
       · exact small m (by decide) (by decide)
       · exact hx _ x m)
theorem cs_repr {x : Str} (h : Cs x) : Cs (reprText x) := by
  have hq : reprQuote x < 16 ^ 8 := by
    unfold reprQuote
    split <;> decide
  have key : ∀ (l : List Nat) (acc : Array Nat), (∀ c ∈ l, c < 16 ^ 8) → (∀ c ∈ acc.toList, c < 16 ^ 8) → ∀ c ∈ (l.foldl (fun out c => out ++ (Builtin.Str.reprChar (reprQuote x) c).toArray) acc).toList, c < 16 ^ 8 := by
    intro l
    induction l with
    | nil => intro acc _ h; exact h
    | cons a l ih =>
      intro acc h1 h2
      refine ih _ (fun c m => h1 c (List.mem_cons_of_mem _ m)) ?_
      intro c m
      rw [Array.toList_append] at m
      rcases List.mem_append.mp m with m | m
      · exact h2 c m
      · exact cs_char hq (h1 a List.mem_cons_self) c (by simpa using m)
  intro c m
  unfold reprText at m
  have m : c ∈ ((x.cps.foldl (fun out c => out ++ (Builtin.Str.reprChar (reprQuote x) c).toArray) #[reprQuote x]).push (reprQuote x)).toList := m
  rw [← Array.foldl_toList, Array.toList_push] at m
  rcases List.mem_append.mp m with m | m
  · exact key _ _ h (by intro c m; simp at m; rw [m]; exact hq) c m
  · simp at m
    rw [m]
    exact hq
/-- shown with at most w signs, at most k deep -/
structure Gd (w k : Nat) (d : D) : Prop where
  pl : plainR d = true
  sh : (toP d).showable = true
  dp : (toP d).depth ≤ k
  ln : (toP d).shown.length ≤ w
  cs : Cs (toP d).shown
  le : ∀ ds, seqOf d = some ds → ds.length ≤ 1000
theorem Gd.mono {w k w' k' : Nat} {d : D} (g : Gd w k d) (h : w ≤ w') (h' : k ≤ k') : Gd w' k' d := ⟨g.pl, g.sh, Nat.le_trans g.dp h', Nat.le_trans g.ln h, g.cs, g.le⟩
theorem Gd.show {w k : Nat} {d : D} (g : Gd w k d) (h : w ≤ 16777216 := by decide) (h' : k ≤ 64 := by decide) : showR d := ⟨g.pl, g.sh, Nat.le_trans g.dp h', Nat.le_trans g.ln (by rw [sizeLine_eq]; exact h)⟩
theorem gd_non : Gd 100 0 .non := ⟨rfl, rfl, by decide +kernel, by decide +kernel, cs_of "None", fun _ h => by cases h⟩
theorem gd_bl (b : Bool) : Gd 100 0 (.bl b) := ⟨rfl, rfl, by cases b <;> decide +kernel, by cases b <;> decide +kernel, by cases b <;> exact cs_of _, fun _ h => by cases h⟩
theorem gd_int {i : Int} (h : Bd 250 i) : Gd 100 0 (.int i) := by
  have h10 : i.natAbs < 10 ^ 76 := Nat.lt_of_lt_of_le h (by decide)
  have l := int_text_length_le10 (k := 76) (by decide) h10
  refine ⟨rfl, ?_, ?_, ?_, cs_of _, fun _ h => by cases h⟩
  · simp only [toP, PyData.showable]
    exact decide_eq_true (PySem.Flt.log2_lt_of (by decide) (h.mono (m := 1920) (by decide)))
  · simp only [toP, PyData.depth]; decide
  · show (Str.ofString (toString i)).length ≤ 100
    rw [PySem.ofString_length]
    omega
theorem gd_str {x : Str} {n : Nat} (h : x.length ≤ n) (c : Cs x) : Gd (10 * n + 2) 0 (.str x) := by
  refine ⟨rfl, rfl, ?_, ?_, cs_repr c, fun _ h => by cases h⟩
  · simp only [toP, PyData.depth]; decide
  · show (reprText x).length ≤ _
    have := StrLaws.reprText_len x c
    omega
theorem gds {w k : Nat} : ∀ ds : List D, (∀ d ∈ ds, Gd w k d) → plainRs ds = true ∧ PyData.showableAll (toPs ds) = true ∧ PyData.depthAll (toPs ds) ≤ k ∧ ((PyData.shownAll (toPs ds)).map (·.length)).sum ≤ w * ds.length ∧ (PyData.shownAll (toPs ds)).length = ds.length ∧ ∀ t ∈ PyData.shownAll (toPs ds), Cs t
  | [], _ => by refine ⟨rfl, rfl, ?_, ?_, ?_, ?_⟩ <;> simp [toPs, PyData.shownAll, PyData.depthAll]
  | d :: ds, h => by
    obtain ⟨h1, h2, h3, h4, h5, h6⟩ := gds ds fun x m => h x (List.mem_cons_of_mem _ m)
    have g := h d List.mem_cons_self
    refine ⟨?_, ?_, ?_, ?_, ?_, ?_⟩
    · show (plainR d && plainRs ds) = true
      rw [g.pl, h1]; rfl
    · show PyData.showableAll (toP d :: toPs ds) = true
      simp only [PyData.showableAll, g.sh, h2, Bool.and_self]
    · show PyData.depthAll (toP d :: toPs ds) ≤ k
      have := g.dp
      simp only [PyData.depthAll]
      omega
    · show ((PyData.shownAll (toP d :: toPs ds)).map (·.length)).sum ≤ _
      have := g.ln
      simp only [PyData.shownAll, List.map_cons, List.sum_cons, List.length_cons, Nat.mul_succ]
      omega
    · show (PyData.shownAll (toP d :: toPs ds)).length = _
      simp only [PyData.shownAll, List.length_cons, h5]
    · show ∀ t ∈ PyData.shownAll (toP d :: toPs ds), Cs t
      intro t m
      simp only [PyData.shownAll, List.mem_cons] at m
      rcases m with rfl | m
      · exact g.cs
      · exact h6 t m
theorem gd_lst {w k n : Nat} {ds : List D} (h : ∀ d ∈ ds, Gd w k d) (hl : ds.length ≤ n) (hn : n ≤ 1000 := by decide) : Gd ((w + 2) * n + 4) (k + 1) (.lst ds) := by
  obtain ⟨h1, h2, h3, h4, h5, h6⟩ := gds ds h
  have m : (w + 2) * ds.length ≤ (w + 2) * n := Nat.mul_le_mul_left _ hl
  refine ⟨h1, ?_, ?_, ?_, ?_, fun _ e => by cases e; omega⟩
  · simpa only [toP, PyData.showable] using h2
  · simp only [toP, PyData.depth]; omega
  · have q := listText_len_le (PyData.shownAll (toPs ds))
    rw [show (toP (.lst ds)).shown = listText (PyData.shownAll (toPs ds)) by simp only [toP, PyData.shown]]
    rw [Nat.add_mul] at m
    omega
  · rw [show (toP (.lst ds)).shown = listText (PyData.shownAll (toPs ds)) by simp only [toP, PyData.shown]]
    exact cs_list h6
theorem gd_tup {w k n : Nat} {ds : List D} (h : ∀ d ∈ ds, Gd w k d) (hl : ds.length ≤ n) (hn : n ≤ 1000 := by decide) : Gd ((w + 2) * n + 4) (k + 1) (.tup ds) := by
  obtain ⟨h1, h2, h3, h4, h5, h6⟩ := gds ds h
  have m : (w + 2) * ds.length ≤ (w + 2) * n := Nat.mul_le_mul_left _ hl
  refine ⟨h1, ?_, ?_, ?_, ?_, fun _ e => by cases e; omega⟩
  · simpa only [toP, PyData.showable] using h2
  · simp only [toP, PyData.depth]; omega
  · have q := tupleText_len_le (PyData.shownAll (toPs ds))
    rw [show (toP (.tup ds)).shown = tupleText (PyData.shownAll (toPs ds)) by simp only [toP, PyData.shown]]
    rw [Nat.add_mul] at m
    omega
  · rw [show (toP (.tup ds)).shown = tupleText (PyData.shownAll (toPs ds)) by simp only [toP, PyData.shown]]
    exact cs_tuple h6
/-- the parts of what is plain are typed -/
theorem typed_of {d : D} (h : plainR d = true) : typed d = true := by
  cases d <;> first | rfl | cases h
theorem plainRs_mem : ∀ {ds : List D}, plainRs ds = true → ∀ d ∈ ds, plainR d = true
  | [], _, _, m => by cases m
  | x :: ds, h, d, m => by
    have h : (plainR x && plainRs ds) = true := h
    obtain ⟨h1, h2⟩ := Bool.and_eq_true_iff.mp h
    rcases List.mem_cons.mp m with rfl | m
    · exact h1
    · exact plainRs_mem h2 d m
end DL
set_option Elab.async false
set_option linter.all false
set_option maxRecDepth 100000
set_option maxHeartbeats 4000000
namespace K06
open PySem PySem.Spec L2 DL
open PyProof.Rows hiding St
def top (i : Nat) : Stmt := PySem.Challenge.pw_nevertwice_k06_sums_products_and_quotien.main.body.getD i (.Pass ⟨0, 0, 0, 0⟩)
abbrev s_is_plain_integer : Stmt := top 2
abbrev s_is_golden : Stmt := top 8
abbrev s_need_golden : Stmt := top 9
abbrev s__lowest : Stmt := top 10
abbrev s_reduced : Stmt := top 11
abbrev s_plus : Stmt := top 12
abbrev s_minus : Stmt := top 13
abbrev s_times : Stmt := top 14
abbrev s_quotient : Stmt := top 15
abbrev s_conjugate : Stmt := top 16
abbrev s__law_deck : Stmt := top 18
abbrev s__law_draw : Stmt := top 19
abbrev s__law_pick : Stmt := top 20
abbrev s__law_integer : Stmt := top 21
abbrev s__law_common : Stmt := top 22
abbrev s__law_least : Stmt := top 23
abbrev s__law_same : Stmt := top 24
abbrev s__law_plus : Stmt := top 25
abbrev s__law_opposite : Stmt := top 26
abbrev s__law_times : Stmt := top 27
abbrev s__law_quotient : Stmt := top 28
abbrev s__law_conjugate : Stmt := top 29
abbrev s__law_golden : Stmt := top 30
abbrev s__law_other : Stmt := top 31
abbrev s__law_divided : Stmt := top 32
abbrev s__law_are_right : Stmt := top 33
abbrev s__law_is_chain_right : Stmt := top 34
abbrev s_law : Stmt := top 35
abbrev FnP (K : PySem.W.Frag) (x : Str) (st : Stmt) (f : Addr) (fd : FuncData) : Prop := FunD K x x (defArgs st) (defBody st) (defScope st) [] [] f fd
def TN : List Str := []
abbrev i_BadNumber : Stmt := initOf (top 5)
structure Tx (K : PySem.W.Frag) (mg : Str → Option Value) where
  a_is_plain_integer : Addr
  d_is_plain_integer : FuncData
  F_is_plain_integer : FnP K "is_plain_integer" s_is_plain_integer a_is_plain_integer d_is_plain_integer
  m_is_plain_integer : mg "is_plain_integer" = some (.ref a_is_plain_integer)
  a_is_golden : Addr
  d_is_golden : FuncData
  F_is_golden : FnP K "is_golden" s_is_golden a_is_golden d_is_golden
  m_is_golden : mg "is_golden" = some (.ref a_is_golden)
  a_need_golden : Addr
  d_need_golden : FuncData
  F_need_golden : FnP K "need_golden" s_need_golden a_need_golden d_need_golden
  m_need_golden : mg "need_golden" = some (.ref a_need_golden)
  a__lowest : Addr
  d__lowest : FuncData
  F__lowest : FnP K "_lowest" s__lowest a__lowest d__lowest
  m__lowest : mg "_lowest" = some (.ref a__lowest)
  a_reduced : Addr
  d_reduced : FuncData
  F_reduced : FnP K "reduced" s_reduced a_reduced d_reduced
  m_reduced : mg "reduced" = some (.ref a_reduced)
  a_plus : Addr
  d_plus : FuncData
  F_plus : FnP K "plus" s_plus a_plus d_plus
  m_plus : mg "plus" = some (.ref a_plus)
  a_minus : Addr
  d_minus : FuncData
  F_minus : FnP K "minus" s_minus a_minus d_minus
  m_minus : mg "minus" = some (.ref a_minus)
  a_times : Addr
  d_times : FuncData
  F_times : FnP K "times" s_times a_times d_times
  m_times : mg "times" = some (.ref a_times)
  a_quotient : Addr
  d_quotient : FuncData
  F_quotient : FnP K "quotient" s_quotient a_quotient d_quotient
  m_quotient : mg "quotient" = some (.ref a_quotient)
  a_conjugate : Addr
  d_conjugate : FuncData
  F_conjugate : FnP K "conjugate" s_conjugate a_conjugate d_conjugate
  m_conjugate : mg "conjugate" = some (.ref a_conjugate)
  a__law_deck : Addr
  d__law_deck : FuncData
  F__law_deck : FnP K "_law_deck" s__law_deck a__law_deck d__law_deck
  m__law_deck : mg "_law_deck" = some (.ref a__law_deck)
  a__law_draw : Addr
  d__law_draw : FuncData
  F__law_draw : FnP K "_law_draw" s__law_draw a__law_draw d__law_draw
  m__law_draw : mg "_law_draw" = some (.ref a__law_draw)
  a__law_pick : Addr
  d__law_pick : FuncData
  F__law_pick : FnP K "_law_pick" s__law_pick a__law_pick d__law_pick
  m__law_pick : mg "_law_pick" = some (.ref a__law_pick)
  a__law_integer : Addr
  d__law_integer : FuncData
  F__law_integer : FnP K "_law_integer" s__law_integer a__law_integer d__law_integer
  m__law_integer : mg "_law_integer" = some (.ref a__law_integer)
  a__law_common : Addr
  d__law_common : FuncData
  F__law_common : FnP K "_law_common" s__law_common a__law_common d__law_common
  m__law_common : mg "_law_common" = some (.ref a__law_common)
  a__law_least : Addr
  d__law_least : FuncData
  F__law_least : FnP K "_law_least" s__law_least a__law_least d__law_least
  m__law_least : mg "_law_least" = some (.ref a__law_least)
  a__law_same : Addr
  d__law_same : FuncData
  F__law_same : FnP K "_law_same" s__law_same a__law_same d__law_same
  m__law_same : mg "_law_same" = some (.ref a__law_same)
  a__law_plus : Addr
  d__law_plus : FuncData
  F__law_plus : FnP K "_law_plus" s__law_plus a__law_plus d__law_plus
  m__law_plus : mg "_law_plus" = some (.ref a__law_plus)
  a__law_opposite : Addr
  d__law_opposite : FuncData
  F__law_opposite : FnP K "_law_opposite" s__law_opposite a__law_opposite d__law_opposite
  m__law_opposite : mg "_law_opposite" = some (.ref a__law_opposite)
  a__law_times : Addr
  d__law_times : FuncData
  F__law_times : FnP K "_law_times" s__law_times a__law_times d__law_times
  m__law_times : mg "_law_times" = some (.ref a__law_times)
  a__law_quotient : Addr
  d__law_quotient : FuncData
  F__law_quotient : FnP K "_law_quotient" s__law_quotient a__law_quotient d__law_quotient
  m__law_quotient : mg "_law_quotient" = some (.ref a__law_quotient)
  a__law_conjugate : Addr
  d__law_conjugate : FuncData
  F__law_conjugate : FnP K "_law_conjugate" s__law_conjugate a__law_conjugate d__law_conjugate
  m__law_conjugate : mg "_law_conjugate" = some (.ref a__law_conjugate)
  a__law_golden : Addr
  d__law_golden : FuncData
  F__law_golden : FnP K "_law_golden" s__law_golden a__law_golden d__law_golden
  m__law_golden : mg "_law_golden" = some (.ref a__law_golden)
  a__law_other : Addr
  d__law_other : FuncData
  F__law_other : FnP K "_law_other" s__law_other a__law_other d__law_other
  m__law_other : mg "_law_other" = some (.ref a__law_other)
  a__law_divided : Addr
  d__law_divided : FuncData
  F__law_divided : FnP K "_law_divided" s__law_divided a__law_divided d__law_divided
  m__law_divided : mg "_law_divided" = some (.ref a__law_divided)
  a__law_are_right : Addr
  d__law_are_right : FuncData
  F__law_are_right : FnP K "_law_are_right" s__law_are_right a__law_are_right d__law_are_right
  m__law_are_right : mg "_law_are_right" = some (.ref a__law_are_right)
  a__law_is_chain_right : Addr
  d__law_is_chain_right : FuncData
  F__law_is_chain_right : FnP K "_law_is_chain_right" s__law_is_chain_right a__law_is_chain_right d__law_is_chain_right
  m__law_is_chain_right : mg "_law_is_chain_right" = some (.ref a__law_is_chain_right)
  a_law : Addr
  d_law : FuncData
  F_law : FnP K "law" s_law a_law d_law
  m_law : mg "law" = some (.ref a_law)
  n_abs : mg "abs" = none
  n_bool : mg "bool" = none
  n_int : mg "int" = none
  n_isinstance : mg "isinstance" = none
  n_len : mg "len" = none
  n_list : mg "list" = none
  n_max : mg "max" = none
  n_range : mg "range" = none
  n_repr : mg "repr" = none
  n_tuple : mg "tuple" = none
  i_gcd : mg "gcd" = some (.builtin "math.gcd")
  mx : mxB K = true
  sm : smB K = true
  c_BadNumber : Addr
  f_BadNumber : Addr
  X_BadNumber : ExF K mg "BadNumber" "thing" c_BadNumber f_BadNumber
  j_BadNumber : FuncData
  G_BadNumber : FunD K "__init__" "BadNumber.__init__" (defArgs i_BadNumber) (defBody i_BadNumber) (defScope i_BadNumber) [] [] f_BadNumber j_BadNumber
  S_BadNumber : ∃ C, clsAt K "BadNumber" = .ref C ∧ ExIs K C
  r_DividedByZero : Addr
  R_DividedByZero : clsAt K "DividedByZero" = .ref r_DividedByZero ∧ mg "DividedByZero" = some (.ref r_DividedByZero)
  e_BadNumber_DividedByZero : PySem.W.exmOne K (clsAt K "BadNumber") (clsAt K "DividedByZero") = some false
  e_DividedByZero_DividedByZero : PySem.W.exmOne K (clsAt K "DividedByZero") (clsAt K "DividedByZero") = some true
  a_DividedByZero : Addr
  C_DividedByZero : ClsF K mg "DividedByZero" a_DividedByZero
section
variable {P : Program} {w : World} {K : PySem.W.Frag} {mg : Str → Option Value} {base : Heap}
theorem it_BadNumber : InitTx "thing" (defBody i_BadNumber) (defScope i_BadNumber) := ⟨⟨_, _, _, _, rfl⟩, rfl, rfl, rfl, rfl, rfl, by decide, by decide, by decide⟩
theorem bi_BadNumber (t : Tx K mg) : Binds K t.j_BadNumber ["self", "thing"] [] := t.G_BadNumber.bindsN fun _ _ _ _ _ _ us hl => match us, hl with | [_, _], _ => rfl
def mm_DividedByZero (n : Str) : Option Bool := if n = "BadNumber" then some false else if n = "DividedByZero" then some true else none
theorem hm_DividedByZero (t : Tx K mg) : ∀ n b, mm_DividedByZero n = some b → PySem.W.exmOne K (clsAt K n) (.ref t.r_DividedByZero) = some b := by
  intro n b h
  rw [← t.R_DividedByZero.1]
  unfold mm_DividedByZero at h
  split at h
  · rename_i e
    subst e
    cases h
    exact t.e_BadNumber_DividedByZero
  split at h
  · rename_i e
    subst e
    cases h
    exact t.e_DividedByZero_DividedByZero
  cases h
theorem sc_is_plain_integer : FnScope ["thing"] ["thing"] (defScope s_is_plain_integer) := ⟨rfl, rfl, rfl, by decide +kernel, rfl, by decide +kernel, by decide +kernel⟩
theorem b_is_plain_integer (t : Tx K mg) : Binds K t.d_is_plain_integer ["thing"] [] := t.F_is_plain_integer.bindsN fun _ _ _ _ _ _ us hl => match us, hl with | [_], _ => rfl
theorem sc_is_golden : FnScope ["thing", "a", "b", "d"] ["thing"] (defScope s_is_golden) := ⟨rfl, rfl, rfl, by decide +kernel, rfl, by decide +kernel, by decide +kernel⟩
theorem b_is_golden (t : Tx K mg) : Binds K t.d_is_golden ["thing"] [] := t.F_is_golden.bindsN fun _ _ _ _ _ _ us hl => match us, hl with | [_], _ => rfl
theorem sc_need_golden : FnScope ["thing"] ["thing"] (defScope s_need_golden) := ⟨rfl, rfl, rfl, by decide +kernel, rfl, by decide +kernel, by decide +kernel⟩
theorem b_need_golden (t : Tx K mg) : Binds K t.d_need_golden ["thing"] [] := t.F_need_golden.bindsN fun _ _ _ _ _ _ us hl => match us, hl with | [_], _ => rfl
theorem sc__lowest : FnScope ["a", "b", "d", "common"] ["a", "b", "d"] (defScope s__lowest) := ⟨rfl, rfl, rfl, by decide +kernel, rfl, by decide +kernel, by decide +kernel⟩
theorem b__lowest (t : Tx K mg) : Binds K t.d__lowest ["a", "b", "d"] [] := t.F__lowest.bindsN fun _ _ _ _ _ _ us hl => match us, hl with | [_, _, _], _ => rfl
theorem sc_reduced : FnScope ["number", "a", "b", "d"] ["number"] (defScope s_reduced) := ⟨rfl, rfl, rfl, by decide +kernel, rfl, by decide +kernel, by decide +kernel⟩
theorem b_reduced (t : Tx K mg) : Binds K t.d_reduced ["number"] [] := t.F_reduced.bindsN fun _ _ _ _ _ _ us hl => match us, hl with | [_], _ => rfl
theorem sc_plus : FnScope ["one", "other", "a", "b", "d", "c", "e", "f"] ["one", "other"] (defScope s_plus) := ⟨rfl, rfl, rfl, by decide +kernel, rfl, by decide +kernel, by decide +kernel⟩
theorem b_plus (t : Tx K mg) : Binds K t.d_plus ["one", "other"] [] := t.F_plus.bindsN fun _ _ _ _ _ _ us hl => match us, hl with | [_, _], _ => rfl
theorem sc_minus : FnScope ["one", "other", "a", "b", "d", "c", "e", "f"] ["one", "other"] (defScope s_minus) := ⟨rfl, rfl, rfl, by decide +kernel, rfl, by decide +kernel, by decide +kernel⟩
theorem b_minus (t : Tx K mg) : Binds K t.d_minus ["one", "other"] [] := t.F_minus.bindsN fun _ _ _ _ _ _ us hl => match us, hl with | [_, _], _ => rfl
theorem sc_times : FnScope ["one", "other", "a", "b", "d", "c", "e", "f"] ["one", "other"] (defScope s_times) := ⟨rfl, rfl, rfl, by decide +kernel, rfl, by decide +kernel, by decide +kernel⟩
theorem b_times (t : Tx K mg) : Binds K t.d_times ["one", "other"] [] := t.F_times.bindsN fun _ _ _ _ _ _ us hl => match us, hl with | [_, _], _ => rfl
theorem sc_quotient : FnScope ["one", "other", "a", "b", "d", "c", "e", "f", "norm"] ["one", "other"] (defScope s_quotient) := ⟨rfl, rfl, rfl, by decide +kernel, rfl, by decide +kernel, by decide +kernel⟩
theorem b_quotient (t : Tx K mg) : Binds K t.d_quotient ["one", "other"] [] := t.F_quotient.bindsN fun _ _ _ _ _ _ us hl => match us, hl with | [_, _], _ => rfl
theorem sc_conjugate : FnScope ["number", "a", "b", "d"] ["number"] (defScope s_conjugate) := ⟨rfl, rfl, rfl, by decide +kernel, rfl, by decide +kernel, by decide +kernel⟩
theorem b_conjugate (t : Tx K mg) : Binds K t.d_conjugate ["number"] [] := t.F_conjugate.bindsN fun _ _ _ _ _ _ us hl => match us, hl with | [_], _ => rfl
theorem sc__law_deck : FnScope ["_law_script", "_law_mixed", "_law_cell"] ["_law_script"] (defScope s__law_deck) := ⟨rfl, rfl, rfl, by decide +kernel, rfl, by decide +kernel, by decide +kernel⟩
theorem b__law_deck (t : Tx K mg) : Binds K t.d__law_deck ["_law_script"] [] := t.F__law_deck.bindsN fun _ _ _ _ _ _ us hl => match us, hl with | [_], _ => rfl
theorem sc__law_draw : FnScope ["_law_deck_here", "_law_many", "_law_figure", "_law_cell"] ["_law_deck_here", "_law_many"] (defScope s__law_draw) := ⟨rfl, rfl, rfl, by decide +kernel, rfl, by decide +kernel, by decide +kernel⟩
theorem b__law_draw (t : Tx K mg) : Binds K t.d__law_draw ["_law_deck_here", "_law_many"] [] := t.F__law_draw.bindsN fun _ _ _ _ _ _ us hl => match us, hl with | [_, _], _ => rfl
theorem sc__law_pick : FnScope ["_law_deck_here", "_law_some"] ["_law_deck_here", "_law_some"] (defScope s__law_pick) := ⟨rfl, rfl, rfl, by decide +kernel, rfl, by decide +kernel, by decide +kernel⟩
theorem b__law_pick (t : Tx K mg) : Binds K t.d__law_pick ["_law_deck_here", "_law_some"] [] := t.F__law_pick.bindsN fun _ _ _ _ _ _ us hl => match us, hl with | [_, _], _ => rfl
theorem sc__law_integer : FnScope ["_law_deck_here", "_law_pieces", "_law_way", "_law_sign", "_law_found", "_law_piece"] ["_law_deck_here", "_law_pieces"] (defScope s__law_integer) := ⟨rfl, rfl, rfl, by decide +kernel, rfl, by decide +kernel, by decide +kernel⟩
theorem b__law_integer (t : Tx K mg) : Binds K t.d__law_integer ["_law_deck_here", "_law_pieces"] [] := t.F__law_integer.bindsN fun _ _ _ _ _ _ us hl => match us, hl with | [_, _], _ => rfl
theorem sc__law_common : FnScope ["_law_a", "_law_b", "_law_near", "_law_far"] ["_law_a", "_law_b"] (defScope s__law_common) := ⟨rfl, rfl, rfl, by decide +kernel, rfl, by decide +kernel, by decide +kernel⟩
theorem b__law_common (t : Tx K mg) : Binds K t.d__law_common ["_law_a", "_law_b"] [] := t.F__law_common.bindsN fun _ _ _ _ _ _ us hl => match us, hl with | [_, _], _ => rfl
theorem sc__law_least : FnScope ["_law_a", "_law_b", "_law_d", "_law_common_here"] ["_law_a", "_law_b", "_law_d"] (defScope s__law_least) := ⟨rfl, rfl, rfl, by decide +kernel, rfl, by decide +kernel, by decide +kernel⟩
theorem b__law_least (t : Tx K mg) : Binds K t.d__law_least ["_law_a", "_law_b", "_law_d"] [] := t.F__law_least.bindsN fun _ _ _ _ _ _ us hl => match us, hl with | [_, _, _], _ => rfl
theorem sc__law_same : FnScope ["_law_told", "_law_due"] ["_law_told", "_law_due"] (defScope s__law_same) := ⟨rfl, rfl, rfl, by decide +kernel, rfl, by decide +kernel, by decide +kernel⟩
theorem b__law_same (t : Tx K mg) : Binds K t.d__law_same ["_law_told", "_law_due"] [] := t.F__law_same.bindsN fun _ _ _ _ _ _ us hl => match us, hl with | [_, _], _ => rfl
theorem sc__law_plus : FnScope ["_law_p", "_law_q"] ["_law_p", "_law_q"] (defScope s__law_plus) := ⟨rfl, rfl, rfl, by decide +kernel, rfl, by decide +kernel, by decide +kernel⟩
theorem b__law_plus (t : Tx K mg) : Binds K t.d__law_plus ["_law_p", "_law_q"] [] := t.F__law_plus.bindsN fun _ _ _ _ _ _ us hl => match us, hl with | [_, _], _ => rfl
theorem sc__law_opposite : FnScope ["_law_p"] ["_law_p"] (defScope s__law_opposite) := ⟨rfl, rfl, rfl, by decide +kernel, rfl, by decide +kernel, by decide +kernel⟩
theorem b__law_opposite (t : Tx K mg) : Binds K t.d__law_opposite ["_law_p"] [] := t.F__law_opposite.bindsN fun _ _ _ _ _ _ us hl => match us, hl with | [_], _ => rfl
theorem sc__law_times : FnScope ["_law_p", "_law_q", "_law_a", "_law_b", "_law_d", "_law_c", "_law_e", "_law_f"] ["_law_p", "_law_q"] (defScope s__law_times) := ⟨rfl, rfl, rfl, by decide +kernel, rfl, by decide +kernel, by decide +kernel⟩
theorem b__law_times (t : Tx K mg) : Binds K t.d__law_times ["_law_p", "_law_q"] [] := t.F__law_times.bindsN fun _ _ _ _ _ _ us hl => match us, hl with | [_, _], _ => rfl
theorem sc__law_quotient : FnScope ["_law_p", "_law_q", "_law_a", "_law_b", "_law_d", "_law_c", "_law_e", "_law_f", "_law_norm", "_law_sign"] ["_law_p", "_law_q"] (defScope s__law_quotient) := ⟨rfl, rfl, rfl, by decide +kernel, rfl, by decide +kernel, by decide +kernel⟩
theorem b__law_quotient (t : Tx K mg) : Binds K t.d__law_quotient ["_law_p", "_law_q"] [] := t.F__law_quotient.bindsN fun _ _ _ _ _ _ us hl => match us, hl with | [_, _], _ => rfl
theorem sc__law_conjugate : FnScope ["_law_p"] ["_law_p"] (defScope s__law_conjugate) := ⟨rfl, rfl, rfl, by decide +kernel, rfl, by decide +kernel, by decide +kernel⟩
theorem b__law_conjugate (t : Tx K mg) : Binds K t.d__law_conjugate ["_law_p"] [] := t.F__law_conjugate.bindsN fun _ _ _ _ _ _ us hl => match us, hl with | [_], _ => rfl
theorem sc__law_golden : FnScope ["_law_deck_here", "_law_pieces", "_law_d"] ["_law_deck_here", "_law_pieces"] (defScope s__law_golden) := ⟨rfl, rfl, rfl, by decide +kernel, rfl, by decide +kernel, by decide +kernel⟩
theorem b__law_golden (t : Tx K mg) : Binds K t.d__law_golden ["_law_deck_here", "_law_pieces"] [] := t.F__law_golden.bindsN fun _ _ _ _ _ _ us hl => match us, hl with | [_, _], _ => rfl
theorem sc__law_other : FnScope ["_law_deck_here", "_law_p", "_law_pieces", "_law_way", "_law_factor"] ["_law_deck_here", "_law_p", "_law_pieces"] (defScope s__law_other) := ⟨rfl, rfl, rfl, by decide +kernel, rfl, by decide +kernel, by decide +kernel⟩
theorem b__law_other (t : Tx K mg) : Binds K t.d__law_other ["_law_deck_here", "_law_p", "_law_pieces"] [] := t.F__law_other.bindsN fun _ _ _ _ _ _ us hl => match us, hl with | [_, _, _], _ => rfl
theorem sc__law_divided : FnScope ["_law_p", "_law_q", "_law_is_named", "_law_told"] ["_law_p", "_law_q", "_law_is_named"] (defScope s__law_divided) := ⟨rfl, rfl, rfl, by decide +kernel, rfl, by decide +kernel, by decide +kernel⟩
theorem b__law_divided (t : Tx K mg) : Binds K t.d__law_divided ["_law_p", "_law_q", "_law_is_named"] [] := t.F__law_divided.bindsN fun _ _ _ _ _ _ us hl => match us, hl with | [_, _, _], _ => rfl
theorem sc__law_are_right : FnScope ["_law_deck_here", "_law_p", "_law_q", "_law_zero", "_law_due", "_law_is_named", "_law_told", "_law_it"] ["_law_deck_here", "_law_p", "_law_q"] (defScope s__law_are_right) := ⟨rfl, rfl, rfl, by decide +kernel, rfl, by decide +kernel, by decide +kernel⟩
theorem b__law_are_right (t : Tx K mg) : Binds K t.d__law_are_right ["_law_deck_here", "_law_p", "_law_q"] [] := t.F__law_are_right.bindsN fun _ _ _ _ _ _ us hl => match us, hl with | [_, _, _], _ => rfl
theorem sc__law_is_chain_right : FnScope ["_law_deck_here", "_law_told", "_law_due", "_law_ahead", "_law_before", "_law_turn", "_law_way", "_law_p", "_law_kept", "_law_last"] ["_law_deck_here"] (defScope s__law_is_chain_right) := ⟨rfl, rfl, rfl, by decide +kernel, rfl, by decide +kernel, by decide +kernel⟩
theorem b__law_is_chain_right (t : Tx K mg) : Binds K t.d__law_is_chain_right ["_law_deck_here"] [] := t.F__law_is_chain_right.bindsN fun _ _ _ _ _ _ us hl => match us, hl with | [_], _ => rfl
theorem sc_law : FnScope ["_law_script", "_law_deck_here", "_law_turn", "_law_p", "_law_q", "_law_far"] ["_law_script"] (defScope s_law) := ⟨rfl, rfl, rfl, by decide +kernel, rfl, by decide +kernel, by decide +kernel⟩
theorem b_law (t : Tx K mg) : Binds K t.d_law ["_law_script"] [] := t.F_law.bindsN fun _ _ _ _ _ _ us hl => match us, hl with | [_], _ => rfl
def T_is_plain_integer : TDS := (dRet (dAnd (dUn (gIs .int) (dVar 0)) (dNot (dUn (gIs .bool) (dVar 0)))))
def tf_is_plain_integer : TF := fun _ ds Q => tfOf 1 T_is_plain_integer (fun _ => False) ds Q
theorem ok_is_plain_integer (t : Tx K mg) : FnG P w K mg base CX0 1 t.a_is_plain_integer t.d_is_plain_integer ["thing"] (spD K 1 tf_is_plain_integer) := by
  have sc := sc_is_plain_integer
  exact fng_data (N := ["thing"]) (T := T_is_plain_integer) t.F_is_plain_integer sc fun cdv A outer s H E F hK hF room =>
    (ds_one (ds_ret (d_and (d_isi (T := .int) hK rfl t.n_isinstance rfl t.n_int (by decide +kernel) (d_var (pv 0))) (d_one (d_not (d_isi (T := .bool) hK rfl t.n_isinstance rfl t.n_bool (by decide +kernel) (d_var (pv 0))))))))
def T_is_golden : TDS := (dSeq (dIfS (dtOr (dtNot (dTest (dUn (gIs .tuple) (dVar 0)))) (dTest (dBin gNe (dCB gLen (dCons (dVar 0) dNil)) (dC (.int 3)))))
    (dRet (dC (.bl false)))
    dNext)
    (dSeq (dAsg (dVar 0) (dgTup 3 (dgCons (dgName 1) (dgCons (dgName 2) (dgCons (dgName 3) dgNil)))))
    (dRet (dAnd (dCall 1 tf_is_plain_integer (dCons (dVar 1) dNil)) (dAnd (dCall 1 tf_is_plain_integer (dCons (dVar 2) dNil)) (dAnd (dCall 1 tf_is_plain_integer (dCons (dVar 3) dNil)) (dBin gGe (dVar 3) (dC (.int 1)))))))))
def tf_is_golden : TF := fun _ ds Q => tfOf 4 T_is_golden (fun _ => False) ds Q
theorem ok_is_golden (t : Tx K mg) : FnG P w K mg base CX0 2 t.a_is_golden t.d_is_golden ["thing"] (spD K 1 tf_is_golden) := by
  have sc := sc_is_golden
  exact fng_data (N := ["thing", "a", "b", "d"]) (T := T_is_golden) t.F_is_golden sc fun cdv A outer s H E F hK hF room =>
    (ds_cons (ds_if (PW.pt (dw_or (dt_not (dt_val (d_isi (T := .tuple) hK rfl t.n_isinstance rfl t.n_tuple (by decide +kernel) (d_var (pv 0))))) (dw_or1 (dt_ne hK room.r.units (d_callB (hK ▸ cd_len) call_len_seq rfl t.n_len (by decide +kernel) (da_cons (d_var (pv 0)) da_nil)) d_int))))
    (ds_one (ds_ret d_bl))
    ds_nil)
    (ds_cons (ds_asg (d_var (pv 0)) (dg_tup hK rfl (dgs_cons (dg_name (pg_name (i := 1) sc.nd rfl (by first | exact Or.inl rfl | exact Or.inr rfl))) (dgs_cons (dg_name (pg_name (i := 2) sc.nd rfl (by first | exact Or.inl rfl | exact Or.inr rfl))) (dgs_cons (dg_name (pg_name (i := 3) sc.nd rfl (by first | exact Or.inl rfl | exact Or.inr rfl))) dgs_nil)))))
    (ds_one (ds_ret (d_and (d_call (ok_is_plain_integer t) hK (room.mono (by decide)) rfl t.m_is_plain_integer t.F_is_plain_integer.kp (b_is_plain_integer t) (da_cons (d_var (pv 1)) da_nil)) (d_and (d_call (ok_is_plain_integer t) hK (room.mono (by decide)) rfl t.m_is_plain_integer t.F_is_plain_integer.kp (b_is_plain_integer t) (da_cons (d_var (pv 2)) da_nil)) (d_and (d_call (ok_is_plain_integer t) hK (room.mono (by decide)) rfl t.m_is_plain_integer t.F_is_plain_integer.kp (b_is_plain_integer t) (da_cons (d_var (pv 3)) da_nil)) (d_one (d_ge (d_var (pv 3)) d_int)))))))))
def T_need_golden : TDS := (dIfS (dtNot (dTest (dCall 1 tf_is_golden (dCons (dVar 0) dNil))))
    (dRaise1 "BadNumber" "thing" (dVar 0))
    dNext)
def tf_need_golden : TF := fun ξ ds Q => tfOf 1 T_need_golden ξ ds Q
theorem ok_need_golden (t : Tx K mg) : FnG P w K mg base (CX P w) 3 t.a_need_golden t.d_need_golden ["thing"] (spD K 1 tf_need_golden) := by
  have sc := sc_need_golden
  exact fng_dataX (N := ["thing"]) (T := T_need_golden) t.F_need_golden sc fun cdv A outer s H E F hK wo' room => have tk' : Takes (cxOf (CX P w) P w K mg base ["thing"] "need_golden" (defScope s_need_golden) t.a_need_golden cdv A outer s H E) (fun c od _ H' => E c od H') := takes_of rfl rfl rfl rfl
    (ds_one (ds_if (dt_not (dt_val (d_call (ok_is_golden t) hK (room.mono (by decide)) rfl t.m_is_golden t.F_is_golden.kp (b_is_golden t) (da_cons (d_var (pv 0)) da_nil))))
    (ds_one (ds_raise1 rfl tk' wo' hK t.X_BadNumber t.G_BadNumber (bi_BadNumber t) it_BadNumber room.r (d_var (pv 0)) rfl))
    ds_nil))
def T__lowest : TDS := (dSeq (dAsg (dCB gGcd3 (dCons (dVar 0) (dCons (dVar 1) (dCons (dVar 2) dNil)))) (dgName 3))
    (dSeq (dIfS (dTest (dBin gLt (dVar 2) (dC (.int 0))))
    (dAsg (dUn gNeg (dVar 3)) (dgName 3))
    dNext)
    (dRet (dTup (dCons (dBin gDivB (dVar 0) (dVar 3)) (dCons (dBin gDivB (dVar 1) (dVar 3)) (dCons (dBin gDivB (dVar 2) (dVar 3)) dNil)))))))
def tf__lowest : TF := fun _ ds Q => tfOf 4 T__lowest (fun _ => False) ds Q
theorem ok__lowest (t : Tx K mg) : FnG P w K mg base CX0 1 t.a__lowest t.d__lowest ["a", "b", "d"] (spD K 3 tf__lowest) := by
  have sc := sc__lowest
  exact fng_data (N := ["a", "b", "d", "common"]) (T := T__lowest) t.F__lowest sc fun cdv A outer s H E F hK hF room =>
    (ds_cons (ds_set (i := 3) sc.nd rfl (by first | exact Or.inl rfl | exact Or.inr rfl) (d_callBf cd_gcd3 cr_gcd3 rfl t.i_gcd (da_cons (d_var (pv 0)) (da_cons (d_var (pv 1)) (da_cons (d_var (pv 2)) da_nil)))))
    (ds_cons (ds_if (dt_lt (d_var (pv 2)) d_int)
    (ds_one (ds_set (i := 3) sc.nd rfl (by first | exact Or.inl rfl | exact Or.inr rfl) (d_neg (d_var (pv 3)))))
    ds_nil)
    (ds_one (ds_ret (d_tup (da_cons (d_divB (d_var (pv 0)) (d_var (pv 3))) (da_cons (d_divB (d_var (pv 1)) (d_var (pv 3))) (da_cons (d_divB (d_var (pv 2)) (d_var (pv 3))) da_nil))))))))
def T_reduced : TDS := (dSeq (dDrop (dCallX 1 tf_need_golden (dCons (dVar 0) dNil)))
    (dSeq (dAsg (dVar 0) (dgTup 3 (dgCons (dgName 1) (dgCons (dgName 2) (dgCons (dgName 3) dgNil)))))
    (dRet (dCall 3 tf__lowest (dCons (dVar 1) (dCons (dVar 2) (dCons (dVar 3) dNil)))))))
def tf_reduced : TF := fun ξ ds Q => tfOf 4 T_reduced ξ ds Q
theorem ok_reduced (t : Tx K mg) : FnG P w K mg base (CX P w) 4 t.a_reduced t.d_reduced ["number"] (spD K 1 tf_reduced) := by
  have sc := sc_reduced
  exact fng_dataX (N := ["number", "a", "b", "d"]) (T := T_reduced) t.F_reduced sc fun cdv A outer s H E F hK wo' room => have tk' : Takes (cxOf (CX P w) P w K mg base ["number", "a", "b", "d"] "reduced" (defScope s_reduced) t.a_reduced cdv A outer s H E) (fun c od _ H' => E c od H') := takes_of rfl rfl rfl rfl
    (ds_cons (ds_expr (d_callX (ok_need_golden t) tk' wo' hK (room.mono (by decide)) rfl t.m_need_golden t.F_need_golden.kp (b_need_golden t) (da_cons (d_var (pv 0)) da_nil)))
    (ds_cons (ds_asg (d_var (pv 0)) (dg_tup hK rfl (dgs_cons (dg_name (pg_name (i := 1) sc.nd rfl (by first | exact Or.inl rfl | exact Or.inr rfl))) (dgs_cons (dg_name (pg_name (i := 2) sc.nd rfl (by first | exact Or.inl rfl | exact Or.inr rfl))) (dgs_cons (dg_name (pg_name (i := 3) sc.nd rfl (by first | exact Or.inl rfl | exact Or.inr rfl))) dgs_nil)))))
    (ds_one (ds_ret (d_call (ok__lowest t) hK (room.mono (by decide)) rfl t.m__lowest t.F__lowest.kp (b__lowest t) (da_cons (d_var (pv 1)) (da_cons (d_var (pv 2)) (da_cons (d_var (pv 3)) da_nil))))))))
def T_plus : TDS := (dSeq (dDrop (dCallX 1 tf_need_golden (dCons (dVar 0) dNil)))
    (dSeq (dDrop (dCallX 1 tf_need_golden (dCons (dVar 1) dNil)))
    (dSeq (dAsg (dVar 0) (dgTup 3 (dgCons (dgName 2) (dgCons (dgName 3) (dgCons (dgName 4) dgNil)))))
    (dSeq (dAsg (dVar 1) (dgTup 3 (dgCons (dgName 5) (dgCons (dgName 6) (dgCons (dgName 7) dgNil)))))
    (dRet (dCall 3 tf__lowest (dCons (dBin gAddA (dBin gMulA (dVar 2) (dVar 7)) (dBin gMulA (dVar 5) (dVar 4))) (dCons (dBin gAddA (dBin gMulA (dVar 3) (dVar 7)) (dBin gMulA (dVar 6) (dVar 4))) (dCons (dBin gMulA (dVar 4) (dVar 7)) dNil)))))))))
def tf_plus : TF := fun ξ ds Q => tfOf 8 T_plus ξ ds Q
theorem ok_plus (t : Tx K mg) : FnG P w K mg base (CX P w) 4 t.a_plus t.d_plus ["one", "other"] (spD K 2 tf_plus) := by
  have sc := sc_plus
  exact fng_dataX (N := ["one", "other", "a", "b", "d", "c", "e", "f"]) (T := T_plus) t.F_plus sc fun cdv A outer s H E F hK wo' room => have tk' : Takes (cxOf (CX P w) P w K mg base ["one", "other", "a", "b", "d", "c", "e", "f"] "plus" (defScope s_plus) t.a_plus cdv A outer s H E) (fun c od _ H' => E c od H') := takes_of rfl rfl rfl rfl
    (ds_cons (ds_expr (d_callX (ok_need_golden t) tk' wo' hK (room.mono (by decide)) rfl t.m_need_golden t.F_need_golden.kp (b_need_golden t) (da_cons (d_var (pv 0)) da_nil)))
    (ds_cons (ds_expr (d_callX (ok_need_golden t) tk' wo' hK (room.mono (by decide)) rfl t.m_need_golden t.F_need_golden.kp (b_need_golden t) (da_cons (d_var (pv 1)) da_nil)))
    (ds_cons (ds_asg (d_var (pv 0)) (dg_tup hK rfl (dgs_cons (dg_name (pg_name (i := 2) sc.nd rfl (by first | exact Or.inl rfl | exact Or.inr rfl))) (dgs_cons (dg_name (pg_name (i := 3) sc.nd rfl (by first | exact Or.inl rfl | exact Or.inr rfl))) (dgs_cons (dg_name (pg_name (i := 4) sc.nd rfl (by first | exact Or.inl rfl | exact Or.inr rfl))) dgs_nil)))))
    (ds_cons (ds_asg (d_var (pv 1)) (dg_tup hK rfl (dgs_cons (dg_name (pg_name (i := 5) sc.nd rfl (by first | exact Or.inl rfl | exact Or.inr rfl))) (dgs_cons (dg_name (pg_name (i := 6) sc.nd rfl (by first | exact Or.inl rfl | exact Or.inr rfl))) (dgs_cons (dg_name (pg_name (i := 7) sc.nd rfl (by first | exact Or.inl rfl | exact Or.inr rfl))) dgs_nil)))))
    (ds_one (ds_ret (d_call (ok__lowest t) hK (room.mono (by decide)) rfl t.m__lowest t.F__lowest.kp (b__lowest t) (da_cons (d_addA hK (d_mulA (d_var (pv 2)) (d_var (pv 7))) (d_mulA (d_var (pv 5)) (d_var (pv 4)))) (da_cons (d_addA hK (d_mulA (d_var (pv 3)) (d_var (pv 7))) (d_mulA (d_var (pv 6)) (d_var (pv 4)))) (da_cons (d_mulA (d_var (pv 4)) (d_var (pv 7))) da_nil))))))))))
def T_minus : TDS := (dSeq (dDrop (dCallX 1 tf_need_golden (dCons (dVar 0) dNil)))
    (dSeq (dDrop (dCallX 1 tf_need_golden (dCons (dVar 1) dNil)))
    (dSeq (dAsg (dVar 0) (dgTup 3 (dgCons (dgName 2) (dgCons (dgName 3) (dgCons (dgName 4) dgNil)))))
    (dSeq (dAsg (dVar 1) (dgTup 3 (dgCons (dgName 5) (dgCons (dgName 6) (dgCons (dgName 7) dgNil)))))
    (dRet (dCall 3 tf__lowest (dCons (dBin gSub (dBin gMulA (dVar 2) (dVar 7)) (dBin gMulA (dVar 5) (dVar 4))) (dCons (dBin gSub (dBin gMulA (dVar 3) (dVar 7)) (dBin gMulA (dVar 6) (dVar 4))) (dCons (dBin gMulA (dVar 4) (dVar 7)) dNil)))))))))
def tf_minus : TF := fun ξ ds Q => tfOf 8 T_minus ξ ds Q
theorem ok_minus (t : Tx K mg) : FnG P w K mg base (CX P w) 4 t.a_minus t.d_minus ["one", "other"] (spD K 2 tf_minus) := by
  have sc := sc_minus
  exact fng_dataX (N := ["one", "other", "a", "b", "d", "c", "e", "f"]) (T := T_minus) t.F_minus sc fun cdv A outer s H E F hK wo' room => have tk' : Takes (cxOf (CX P w) P w K mg base ["one", "other", "a", "b", "d", "c", "e", "f"] "minus" (defScope s_minus) t.a_minus cdv A outer s H E) (fun c od _ H' => E c od H') := takes_of rfl rfl rfl rfl
    (ds_cons (ds_expr (d_callX (ok_need_golden t) tk' wo' hK (room.mono (by decide)) rfl t.m_need_golden t.F_need_golden.kp (b_need_golden t) (da_cons (d_var (pv 0)) da_nil)))
    (ds_cons (ds_expr (d_callX (ok_need_golden t) tk' wo' hK (room.mono (by decide)) rfl t.m_need_golden t.F_need_golden.kp (b_need_golden t) (da_cons (d_var (pv 1)) da_nil)))
    (ds_cons (ds_asg (d_var (pv 0)) (dg_tup hK rfl (dgs_cons (dg_name (pg_name (i := 2) sc.nd rfl (by first | exact Or.inl rfl | exact Or.inr rfl))) (dgs_cons (dg_name (pg_name (i := 3) sc.nd rfl (by first | exact Or.inl rfl | exact Or.inr rfl))) (dgs_cons (dg_name (pg_name (i := 4) sc.nd rfl (by first | exact Or.inl rfl | exact Or.inr rfl))) dgs_nil)))))
    (ds_cons (ds_asg (d_var (pv 1)) (dg_tup hK rfl (dgs_cons (dg_name (pg_name (i := 5) sc.nd rfl (by first | exact Or.inl rfl | exact Or.inr rfl))) (dgs_cons (dg_name (pg_name (i := 6) sc.nd rfl (by first | exact Or.inl rfl | exact Or.inr rfl))) (dgs_cons (dg_name (pg_name (i := 7) sc.nd rfl (by first | exact Or.inl rfl | exact Or.inr rfl))) dgs_nil)))))
    (ds_one (ds_ret (d_call (ok__lowest t) hK (room.mono (by decide)) rfl t.m__lowest t.F__lowest.kp (b__lowest t) (da_cons (d_sub (d_mulA (d_var (pv 2)) (d_var (pv 7))) (d_mulA (d_var (pv 5)) (d_var (pv 4)))) (da_cons (d_sub (d_mulA (d_var (pv 3)) (d_var (pv 7))) (d_mulA (d_var (pv 6)) (d_var (pv 4)))) (da_cons (d_mulA (d_var (pv 4)) (d_var (pv 7))) da_nil))))))))))
def T_times : TDS := (dSeq (dDrop (dCallX 1 tf_need_golden (dCons (dVar 0) dNil)))
    (dSeq (dDrop (dCallX 1 tf_need_golden (dCons (dVar 1) dNil)))
    (dSeq (dAsg (dVar 0) (dgTup 3 (dgCons (dgName 2) (dgCons (dgName 3) (dgCons (dgName 4) dgNil)))))
    (dSeq (dAsg (dVar 1) (dgTup 3 (dgCons (dgName 5) (dgCons (dgName 6) (dgCons (dgName 7) dgNil)))))
    (dRet (dCall 3 tf__lowest (dCons (dBin gAddA (dBin gMulA (dVar 2) (dVar 5)) (dBin gMulA (dVar 3) (dVar 6))) (dCons (dBin gAddA (dBin gAddA (dBin gMulA (dVar 2) (dVar 6)) (dBin gMulA (dVar 3) (dVar 5))) (dBin gMulA (dVar 3) (dVar 6))) (dCons (dBin gMulA (dVar 4) (dVar 7)) dNil)))))))))
def tf_times : TF := fun ξ ds Q => tfOf 8 T_times ξ ds Q
theorem ok_times (t : Tx K mg) : FnG P w K mg base (CX P w) 4 t.a_times t.d_times ["one", "other"] (spD K 2 tf_times) := by
  have sc := sc_times
  exact fng_dataX (N := ["one", "other", "a", "b", "d", "c", "e", "f"]) (T := T_times) t.F_times sc fun cdv A outer s H E F hK wo' room => have tk' : Takes (cxOf (CX P w) P w K mg base ["one", "other", "a", "b", "d", "c", "e", "f"] "times" (defScope s_times) t.a_times cdv A outer s H E) (fun c od _ H' => E c od H') := takes_of rfl rfl rfl rfl
    (ds_cons (ds_expr (d_callX (ok_need_golden t) tk' wo' hK (room.mono (by decide)) rfl t.m_need_golden t.F_need_golden.kp (b_need_golden t) (da_cons (d_var (pv 0)) da_nil)))
    (ds_cons (ds_expr (d_callX (ok_need_golden t) tk' wo' hK (room.mono (by decide)) rfl t.m_need_golden t.F_need_golden.kp (b_need_golden t) (da_cons (d_var (pv 1)) da_nil)))
    (ds_cons (ds_asg (d_var (pv 0)) (dg_tup hK rfl (dgs_cons (dg_name (pg_name (i := 2) sc.nd rfl (by first | exact Or.inl rfl | exact Or.inr rfl))) (dgs_cons (dg_name (pg_name (i := 3) sc.nd rfl (by first | exact Or.inl rfl | exact Or.inr rfl))) (dgs_cons (dg_name (pg_name (i := 4) sc.nd rfl (by first | exact Or.inl rfl | exact Or.inr rfl))) dgs_nil)))))
    (ds_cons (ds_asg (d_var (pv 1)) (dg_tup hK rfl (dgs_cons (dg_name (pg_name (i := 5) sc.nd rfl (by first | exact Or.inl rfl | exact Or.inr rfl))) (dgs_cons (dg_name (pg_name (i := 6) sc.nd rfl (by first | exact Or.inl rfl | exact Or.inr rfl))) (dgs_cons (dg_name (pg_name (i := 7) sc.nd rfl (by first | exact Or.inl rfl | exact Or.inr rfl))) dgs_nil)))))
    (ds_one (ds_ret (d_call (ok__lowest t) hK (room.mono (by decide)) rfl t.m__lowest t.F__lowest.kp (b__lowest t) (da_cons (d_addA hK (d_mulA (d_var (pv 2)) (d_var (pv 5))) (d_mulA (d_var (pv 3)) (d_var (pv 6)))) (da_cons (d_addA hK (d_addA hK (d_mulA (d_var (pv 2)) (d_var (pv 6))) (d_mulA (d_var (pv 3)) (d_var (pv 5)))) (d_mulA (d_var (pv 3)) (d_var (pv 6)))) (da_cons (d_mulA (d_var (pv 4)) (d_var (pv 7))) da_nil))))))))))
def T_quotient : TDS := (dSeq (dDrop (dCallX 1 tf_need_golden (dCons (dVar 0) dNil)))
    (dSeq (dDrop (dCallX 1 tf_need_golden (dCons (dVar 1) dNil)))
    (dSeq (dAsg (dVar 0) (dgTup 3 (dgCons (dgName 2) (dgCons (dgName 3) (dgCons (dgName 4) dgNil)))))
    (dSeq (dAsg (dVar 1) (dgTup 3 (dgCons (dgName 5) (dgCons (dgName 6) (dgCons (dgName 7) dgNil)))))
    (dSeq (dIfS (dtAnd (dTest (dBin gEq (dVar 5) (dC (.int 0)))) (dTest (dBin gEq (dVar 6) (dC (.int 0)))))
    (dRaise0 "DividedByZero")
    dNext)
    (dSeq (dAsg (dBin gSub (dBin gAddA (dBin gMulA (dVar 5) (dVar 5)) (dBin gMulA (dVar 5) (dVar 6))) (dBin gMulA (dVar 6) (dVar 6))) (dgName 8))
    (dRet (dCall 3 tf__lowest (dCons (dBin gMulA (dBin gSub (dBin gMulA (dVar 2) (dBin gAddA (dVar 5) (dVar 6))) (dBin gMulA (dVar 3) (dVar 6))) (dVar 7)) (dCons (dBin gMulA (dBin gSub (dBin gMulA (dVar 3) (dVar 5)) (dBin gMulA (dVar 2) (dVar 6))) (dVar 7)) (dCons (dBin gMulA (dVar 4) (dVar 8)) dNil)))))))))))
def tf_quotient : TF := fun ξ ds Q => tfOf 9 T_quotient ξ ds Q
theorem ok_quotient (t : Tx K mg) : FnG P w K mg base (CX P w) 4 t.a_quotient t.d_quotient ["one", "other"] (spD K 2 tf_quotient) := by
  have sc := sc_quotient
  exact fng_dataX (N := ["one", "other", "a", "b", "d", "c", "e", "f", "norm"]) (T := T_quotient) t.F_quotient sc fun cdv A outer s H E F hK wo' room => have tk' : Takes (cxOf (CX P w) P w K mg base ["one", "other", "a", "b", "d", "c", "e", "f", "norm"] "quotient" (defScope s_quotient) t.a_quotient cdv A outer s H E) (fun c od _ H' => E c od H') := takes_of rfl rfl rfl rfl
    (ds_cons (ds_expr (d_callX (ok_need_golden t) tk' wo' hK (room.mono (by decide)) rfl t.m_need_golden t.F_need_golden.kp (b_need_golden t) (da_cons (d_var (pv 0)) da_nil)))
    (ds_cons (ds_expr (d_callX (ok_need_golden t) tk' wo' hK (room.mono (by decide)) rfl t.m_need_golden t.F_need_golden.kp (b_need_golden t) (da_cons (d_var (pv 1)) da_nil)))
    (ds_cons (ds_asg (d_var (pv 0)) (dg_tup hK rfl (dgs_cons (dg_name (pg_name (i := 2) sc.nd rfl (by first | exact Or.inl rfl | exact Or.inr rfl))) (dgs_cons (dg_name (pg_name (i := 3) sc.nd rfl (by first | exact Or.inl rfl | exact Or.inr rfl))) (dgs_cons (dg_name (pg_name (i := 4) sc.nd rfl (by first | exact Or.inl rfl | exact Or.inr rfl))) dgs_nil)))))
    (ds_cons (ds_asg (d_var (pv 1)) (dg_tup hK rfl (dgs_cons (dg_name (pg_name (i := 5) sc.nd rfl (by first | exact Or.inl rfl | exact Or.inr rfl))) (dgs_cons (dg_name (pg_name (i := 6) sc.nd rfl (by first | exact Or.inl rfl | exact Or.inr rfl))) (dgs_cons (dg_name (pg_name (i := 7) sc.nd rfl (by first | exact Or.inl rfl | exact Or.inr rfl))) dgs_nil)))))
    (ds_cons (ds_if (PW.pt (dw_and (dt_eq hK room.r.units (d_var (pv 5)) d_int) (dw_and1 (dt_eq hK room.r.units (d_var (pv 6)) d_int))))
    (ds_one (ds_raise0 rfl tk' wo' hK PySem.F.excBase_Exception t.C_DividedByZero.q t.C_DividedByZero.g (hK ▸ t.C_DividedByZero.at_) t.C_DividedByZero.kp (raises_own t.C_DividedByZero.sub t.C_DividedByZero.ty) rfl))
    ds_nil)
    (ds_cons (ds_set (i := 8) sc.nd rfl (by first | exact Or.inl rfl | exact Or.inr rfl) (d_sub (d_addA hK (d_mulA (d_var (pv 5)) (d_var (pv 5))) (d_mulA (d_var (pv 5)) (d_var (pv 6)))) (d_mulA (d_var (pv 6)) (d_var (pv 6)))))
    (ds_one (ds_ret (d_call (ok__lowest t) hK (room.mono (by decide)) rfl t.m__lowest t.F__lowest.kp (b__lowest t) (da_cons (d_mulA (d_sub (d_mulA (d_var (pv 2)) (d_addA hK (d_var (pv 5)) (d_var (pv 6)))) (d_mulA (d_var (pv 3)) (d_var (pv 6)))) (d_var (pv 7))) (da_cons (d_mulA (d_sub (d_mulA (d_var (pv 3)) (d_var (pv 5))) (d_mulA (d_var (pv 2)) (d_var (pv 6)))) (d_var (pv 7))) (da_cons (d_mulA (d_var (pv 4)) (d_var (pv 8))) da_nil))))))))))))
def T_conjugate : TDS := (dSeq (dDrop (dCallX 1 tf_need_golden (dCons (dVar 0) dNil)))
    (dSeq (dAsg (dVar 0) (dgTup 3 (dgCons (dgName 1) (dgCons (dgName 2) (dgCons (dgName 3) dgNil)))))
    (dRet (dCall 3 tf__lowest (dCons (dBin gAddA (dVar 1) (dVar 2)) (dCons (dUn gNeg (dVar 2)) (dCons (dVar 3) dNil)))))))
def tf_conjugate : TF := fun ξ ds Q => tfOf 4 T_conjugate ξ ds Q
theorem ok_conjugate (t : Tx K mg) : FnG P w K mg base (CX P w) 4 t.a_conjugate t.d_conjugate ["number"] (spD K 1 tf_conjugate) := by
  have sc := sc_conjugate
  exact fng_dataX (N := ["number", "a", "b", "d"]) (T := T_conjugate) t.F_conjugate sc fun cdv A outer s H E F hK wo' room => have tk' : Takes (cxOf (CX P w) P w K mg base ["number", "a", "b", "d"] "conjugate" (defScope s_conjugate) t.a_conjugate cdv A outer s H E) (fun c od _ H' => E c od H') := takes_of rfl rfl rfl rfl
    (ds_cons (ds_expr (d_callX (ok_need_golden t) tk' wo' hK (room.mono (by decide)) rfl t.m_need_golden t.F_need_golden.kp (b_need_golden t) (da_cons (d_var (pv 0)) da_nil)))
    (ds_cons (ds_asg (d_var (pv 0)) (dg_tup hK rfl (dgs_cons (dg_name (pg_name (i := 1) sc.nd rfl (by first | exact Or.inl rfl | exact Or.inr rfl))) (dgs_cons (dg_name (pg_name (i := 2) sc.nd rfl (by first | exact Or.inl rfl | exact Or.inr rfl))) (dgs_cons (dg_name (pg_name (i := 3) sc.nd rfl (by first | exact Or.inl rfl | exact Or.inr rfl))) dgs_nil)))))
    (ds_one (ds_ret (d_call (ok__lowest t) hK (room.mono (by decide)) rfl t.m__lowest t.F__lowest.kp (b__lowest t) (da_cons (d_addA hK (d_var (pv 1)) (d_var (pv 2))) (da_cons (d_neg (d_var (pv 2))) (da_cons (d_var (pv 3)) da_nil))))))))
theorem ok__law_deck (t : Tx K mg) : FnG P w K mg base CX0 1 t.a__law_deck t.d__law_deck ["_law_script"] (spDeck K) := by
  have sc : FnScope ["_law_script", "_law_mixed", "_law_cell"] ["_law_script"] (defScope s__law_deck) := sc__law_deck
  refine fng_of (N := ["_law_script", "_law_mixed", "_law_cell"]) t.F__law_deck sc ?_ ?_
  · rintro vs H Q E ⟨a, ns, rfl, _⟩
    rfl
  rintro cdv A outer s H vs Q E room ⟨a, ns, rfl, hS, hlen, k⟩
  refine ⟨_, PSs.nox (pss_cons (ps_set (i := 1) sc.nd rfl (.inl rfl) pe_int)
    (pss_cons (ps_for PassesOwn.never rfl (pi_list (pe_slice sl_list (pv 0) po_none (po_some pe_int))) (pg_name (i := 2) sc.nd rfl (.inl rfl))
      (pss_one (ps_set (i := 1) sc.nd rfl (.inl rfl) (pe_op op_mod (pe_callTy call_int1 (by rfl) t.n_int (by decide +kernel) (pa_cons (pe_op op_add (pe_op op_add (pe_op op_mul (pv 1) pe_int) (pe_op op_mod (pe_callTy call_int1 (by rfl) t.n_int (by decide +kernel) (pa_cons (pv 2) pa_nil)) pe_int)) pe_int) pa_nil)) pe_int))))
    (pss_one (ps_ret (pe_disp (pps_cons pe_str (pe_revL (pe_callTy call_list_of (by rfl) t.n_list (by decide +kernel) (pa_cons (pe_slice sl_list (pv 0) po_none (po_some pe_int)) pa_nil)))
      (pps_cons pe_str (pv 1) (pps_cons pe_str pe_int pps_nil))) (by rfl) (by rfl) (fun z => by cases z) (by decide)))))), ?_⟩
  obtain ⟨ms, hms, hml⟩ := cut_ints ns none (some 63)
  refine ⟨_, rfl, _, rfl, a, _, rfl, hS, fun p hp => ⟨p, rfl, ⟨_, SqL.of upd_same⟩, ?_⟩⟩
  rw [hms]
  have S1 : Same H (upd H p (.lst (ms.map V.int))) := (Same.refl H).lay hp
  refine for_list (K := K) (a := p) (xs := ms.map V.int) (fun i σ' H' => ∃ (m : Int) (v : Option V), σ' = [some (.ref a), some (.int m), v] ∧ H' = upd H p (.lst (ms.map V.int))) ⟨_, _, rfl, rfl⟩ ?_ ?_ ?_
  · rintro i σ' H' _ ⟨m, v, rfl, rfl⟩
    exact SqL.of upd_same
  · rintro i x σ' H' hx ⟨m, v, rfl, rfl⟩
    obtain ⟨u, rfl⟩ : ∃ u, x = V.int u := by
      rw [List.getElem?_map, Option.map_eq_some_iff] at hx
      obtain ⟨u, _, e⟩ := hx
      exact ⟨u, e.symm⟩
    refine ⟨_, rfl, _, _, rfl, rfl, .inr ⟨by decide, by decide⟩, _, rfl, .inl ⟨_, rfl, _, _, rfl, rfl, (by show (0 : Int) < _; decide), _, _, rfl, rfl, _, _, rfl, rfl, .inl ⟨_, rfl, _, _, rfl, rfl, (by show (0 : Int) < _; decide), ?_⟩⟩⟩
    exact ⟨_, _, rfl, rfl⟩
  · rintro σ' H' ⟨m, v, rfl, rfl⟩
    intro p2 hp2
    have S2 := S1.lay (o := .dK []) hp2
    refine ⟨_, rfl, _, rfl, a, _, rfl, S2.seq hS, fun p3 hp3 => ⟨p3, _, rfl, .inl (SqL.of upd_same), fun p4 hp4 => ⟨p4, _, rfl, SqL.of upd_same, fun l hl => ?_⟩⟩⟩
    have S3 := S2.lay (o := .lst (cutV (ns.map V.int) none (some 63))) hp3
    have S4 := S3.lay (o := .lst (cutV (ns.map V.int) none (some 63))) hp4
    have S5 := S4.lay (o := .lst (cutV (ns.map V.int) none (some 63)).reverse) hl
    have D2 : upd (upd H p (.lst (ms.map V.int))) p2 (.dK []) p2 = some (.dK []) := upd_same
    have D5 := keepU (o := .lst (cutV (ns.map V.int) none (some 63)).reverse) (keepU (o := .lst (cutV (ns.map V.int) none (some 63))) (keepU (o := .lst (cutV (ns.map V.int) none (some 63))) D2 hp3) hp4) hl
    refine ⟨_, rfl, D5, [(.inr ("left" : Str), .ref l), (.inr ("mixed" : Str), .int m), (.inr ("draws" : Str), .int 0)], rfl, (by show 3 ≤ 15; decide), ?_⟩
    rw [merge_deck]
    have nl : l ≠ p2 := (ne_of_none (keepU (o := .lst (cutV (ns.map V.int) none (some 63))) (keepU (o := .lst (cutV (ns.map V.int) none (some 63))) D2 hp3) hp4) hl).symm
    refine k _ p2 l m ms.reverse (fun q o e => ?_) (S1.free hp2) (S4.free hl) upd_same ?_ (by rw [List.length_reverse]; omega)
    · have nq : q ≠ p2 := ne_of_none e (S1.free hp2)
      rw [upd_ne nq]
      exact S5 q o e
    · rw [upd_ne nl, upd_same, hms, List.map_reverse]
theorem ok__law_draw (t : Tx K mg) : FnG P w K mg base CX0 1 t.a__law_draw t.d__law_draw ["_law_deck_here", "_law_many"] (spD K 2 tf_draw) := by
  have sc : FnScope ["_law_deck_here", "_law_many", "_law_figure", "_law_cell"] ["_law_deck_here", "_law_many"] (defScope s__law_draw) := sc__law_draw
  refine fng_of (N := ["_law_deck_here", "_law_many", "_law_figure", "_law_cell"]) t.F__law_draw sc ?_ ?_
  · rintro vs H Q E ⟨Z, B, ds, Qd, Ed, b, r, hl, _⟩
    rw [← r.length, hl]; rfl
  rintro cdv A outer s H vs Q E room ⟨Z, B, ds, Qd, Ed, b, r, hl, hT, hq, _⟩
  have hu := hu_of room.r
  obtain ⟨a, l, n, hz, rfl, ⟨n0, n1⟩, hT⟩ := draw_reps r hT
  obtain ⟨xs, m, k, h1, h2, h3⟩ := b.deck.1 a l hz
  refine ⟨_, PSs.nox (pss_cons (ps_dput hu (pv 0) pe_str (pe_op op_add (pe_dget hu (pv 0) pe_str (fun _ _ => rfl)) pe_int) rfl)
    (pss_cons (ps_set (i := 2) sc.nd rfl (.inl rfl) (pe_op op_add (pe_dget hu (pv 0) pe_str (fun _ _ => rfl)) (pe_op op_mul pe_int (pe_dget hu (pv 0) pe_str (fun _ _ => rfl)))))
    (pss_cons (ps_if (pt_cmpR (op_neD room.r.units) (pe_dget hu (pv 0) pe_str (fun _ _ => rfl)) (pe_lst pa_nil) (nomark _))
      (pss_cons (ps_set (i := 3) sc.nd rfl (.inl rfl) (pe_bm0 PySem.F.plainAttrs_list PySem.F.slot_list_pop PySem.F.type_list_pop mt_pop (pe_dget hu (pv 0) pe_str (fun _ _ => rfl))))
      (pss_cons (ps_if (pt_cmpR op_ge (pv 3) (pe_op op_pow pe_int pe_int) (nomark _))
        (pss_cons (ps_expr (pe_bm PySem.F.plainAttrs_list PySem.F.slot_list_append PySem.F.type_list_append mt_append (pe_dget hu (pv 0) pe_str (fun _ _ => rfl))
          (pa_cons (pe_op op_fdiv (pv 3) (pe_callB (call_max2 rfl) (by rfl) t.n_max (by decide +kernel) (pa_cons pe_int (pa_cons (pv 1) pa_nil)))) pa_nil)))
        (pss_one (ps_ret (pe_op op_mod (pe_callTy call_int1 (by rfl) t.n_int (by decide +kernel) (pa_cons (pv 3) pa_nil)) (pv 1)))))
        pss_nil)
      (pss_one (ps_set (i := 2) sc.nd rfl (.inl rfl) (pe_op op_add (pv 2) (pe_op op_mod (pe_callTy call_int1 (by rfl) t.n_int (by decide +kernel) (pa_cons (pv 3) pa_nil)) pe_int))))))
      pss_nil)
    (pss_cons (ps_set (i := 2) sc.nd rfl (.inl rfl) (pe_op op_mod (pe_callTy call_int1 (by rfl) t.n_int (by decide +kernel) (pa_cons (pe_op op_add (pe_op op_mul (pv 2) pe_int) pe_int) pa_nil)) pe_int))
    (pss_cons (ps_set (i := 2) sc.nd rfl (.inl rfl) (pe_op op_mod (pe_callTy call_int1 (by rfl) t.n_int (by decide +kernel) (pa_cons (pe_op op_add (pe_op op_add (pe_op op_mul (pv 2) (pv 2)) (pe_op op_mul pe_int (pe_dget hu (pv 0) pe_str (fun _ _ => rfl)))) pe_int) pa_nil)) pe_int))
    (pss_cons (ps_set (i := 2) sc.nd rfl (.inl rfl) (pe_op op_mod (pe_callTy call_int1 (by rfl) t.n_int (by decide +kernel) (pa_cons (pe_op op_mul (pv 2) pe_int) pa_nil)) pe_int))
    (pss_one (ps_ret (pe_op op_mod (pe_callTy call_int1 (by rfl) t.n_int (by decide +kernel) (pa_cons (pe_op op_fdiv (pv 2) pe_int) pa_nil)) (pv 1)))))))))), ?_⟩
  have hne : a ≠ l := ne_of h1 h2 (by intro z; cases z)
  have K0 : Dk a l H H m k xs := ⟨fun _ _ _ _ e => e, h1, h2, hne, fun _ _ t => t⟩
  have zq : ∀ {H' : Hp} {m k : Int} {ys : List Int} {r : Int}, Dk a l H H' m k ys → ys.length ≤ 63 → 0 ≤ r → r < n → Q (.int r) H' := fun d hy r0 r1 => hq _ _ (.int _) (d.ext hy hz) rfl (hT _ r0 r1)
  -- the number of draws
  refine ⟨_, rfl, a, _, rfl, dg_d h1, _, _, rfl, rfl, _, rfl, a, _, rfl, dp_d h1, ?_⟩
  have K1 := K0.put (j := k + 1)
  -- the figure
  refine ⟨_, rfl, a, _, rfl, dg_m K1.dict, _, rfl, a, _, rfl, dg_d K1.dict, _, _, rfl, rfl, .inl ⟨by decide, by decide⟩, _, _, rfl, rfl, ?_⟩
  have K2 : ∀ p, (upd H a (.dK (deckKvs l m (k + 1)))) p = none → Dk a l H (upd (upd H a (.dK (deckKvs l m (k + 1)))) p (.lst [])) m (k + 1) xs := fun p hp => K1.new hp
  refine ⟨_, rfl, a, _, rfl, dg_l K1.dict, Nat.zero_le _, fun p hp => ?_⟩
  have K3 := K2 p hp
  refine ⟨.list (xs.map PyData.int), .list [], .lst (SqL.of K3.list) (dp_ints xs), .lst (SqL.of upd_same) .nil, shaped_ints xs, rfl, _, rfl, ?_⟩
  rw [eqv_ints_nil]
  generalize hb : (!xs.isEmpty) = bb
  have big : ∀ x : Int, -(2 ^ 64) < x % 2147483563 ∧ x % 2147483563 < 2 ^ 64 := fun x => by omega
  obtain e | ⟨xs', cell, e⟩ := last_of xs
  · subst e
    have hb : false = bb := hb
    subst hb
    refine iteF ?_
    have K9 := K3
    have hy : ([] : List Int).length ≤ 63 := h3
    refine ⟨_, rfl, _, _, rfl, rfl, .inr ⟨by decide, by decide⟩, _, _, rfl, rfl, .inl ⟨_, rfl, _, _, rfl, rfl, (by show (0 : Int) < _; decide), ?_⟩⟩
    refine ⟨_, rfl, _, rfl, _, _, rfl, rfl, .inl (big _), _, rfl, a, _, rfl, dg_d K9.dict, _, _, rfl, rfl, .inl ⟨by decide, by decide⟩, _, _, rfl, rfl, _, _, rfl, rfl, .inl ⟨_, rfl, _, _, rfl, rfl, (by show (0 : Int) < _; decide), ?_⟩⟩
    refine ⟨_, rfl, _, _, rfl, rfl, .inr ⟨by decide, by decide⟩, .inl ⟨_, rfl, _, _, rfl, rfl, (by show (0 : Int) < _; decide), ?_⟩⟩
    refine ⟨_, rfl, _, _, rfl, rfl, ⟨by decide, by decide⟩, .inl ⟨_, rfl, _, rfl, _, _, rfl, rfl, n0, ?_⟩⟩
    exact zq K9 hy (Int.emod_nonneg _ (by omega)) (Int.emod_lt_of_pos _ n0)
  · subst e
    have hy : xs'.length ≤ 62 := by simpa using h3
    have hb : true = bb := by rw [← hb]; simp
    subst hb
    refine iteT ?_
    refine ⟨_, rfl, a, _, rfl, dg_l K3.dict, .inl ⟨rfl, _, SqL.of K3.list⟩, l, _, .int cell, rfl, rfl, K3.list, by simp, ?_⟩
    rw [show ((xs' ++ [cell]).map V.int).dropLast = xs'.map V.int from by simp]
    have K9 := K3.set (ys := xs')
    refine ⟨_, rfl, _, _, rfl, rfl, ⟨by decide, by decide, by decide⟩, _, _, rfl, rfl, _, rfl, ?_⟩
    refine ite2 (fun _ => ?_) (fun _ => ?_)
    · refine ⟨_, rfl, a, _, rfl, dg_l K9.dict, .inl ⟨rfl, _, SqL.of K9.list⟩, _, rfl, _, rfl, _, _, rfl, _, _, rfl, rfl, ⟨by split <;> omega, by split <;> omega⟩, l, _, _, rfl, rfl, K9.list, by rw [List.length_map, sizeLine_eq]; omega, ?_⟩
      refine ⟨_, rfl, .inl ⟨_, rfl, _, rfl, _, _, rfl, rfl, n0, ?_⟩⟩
      rw [show ∀ q : Int, xs'.map V.int ++ [V.int q] = (xs' ++ [q]).map V.int from fun q => by simp]
      exact zq (K9.set (ys := xs' ++ [_])) (by simp; omega) (Int.emod_nonneg _ (by omega)) (Int.emod_lt_of_pos _ n0)
    · refine ⟨_, rfl, _, rfl, .inl ⟨_, rfl, _, _, rfl, rfl, (by show (0 : Int) < _; decide), _, _, rfl, rfl, ?_⟩⟩
      have hy : xs'.length ≤ 63 := by omega
      refine ⟨_, rfl, _, _, rfl, rfl, .inr ⟨by decide, by decide⟩, _, _, rfl, rfl, .inl ⟨_, rfl, _, _, rfl, rfl, (by show (0 : Int) < _; decide), ?_⟩⟩
      refine ⟨_, rfl, _, rfl, _, _, rfl, rfl, .inl (big _), _, rfl, a, _, rfl, dg_d K9.dict, _, _, rfl, rfl, .inl ⟨by decide, by decide⟩, _, _, rfl, rfl, _, _, rfl, rfl, .inl ⟨_, rfl, _, _, rfl, rfl, (by show (0 : Int) < _; decide), ?_⟩⟩
      refine ⟨_, rfl, _, _, rfl, rfl, .inr ⟨by decide, by decide⟩, .inl ⟨_, rfl, _, _, rfl, rfl, (by show (0 : Int) < _; decide), ?_⟩⟩
      refine ⟨_, rfl, _, _, rfl, rfl, ⟨by decide, by decide⟩, .inl ⟨_, rfl, _, rfl, _, _, rfl, rfl, n0, ?_⟩⟩
      exact zq K9 hy (Int.emod_nonneg _ (by omega)) (Int.emod_lt_of_pos _ n0)
def T__law_pick : TDS := (dRet (dBin gIx (dVar 1) (dCall 2 tf_draw (dCons (dVar 0) (dCons (dCB gLen (dCons (dVar 1) dNil)) dNil)))))
def tf__law_pick : TF := fun _ ds Q => tfOf 2 T__law_pick (fun _ => False) ds Q
theorem ok__law_pick (t : Tx K mg) : FnG P w K mg base CX0 2 t.a__law_pick t.d__law_pick ["_law_deck_here", "_law_some"] (spD K 2 tf__law_pick) := by
  have sc := sc__law_pick
  exact fng_data (N := ["_law_deck_here", "_law_some"]) (T := T__law_pick) t.F__law_pick sc fun cdv A outer s H E F hK hF room =>
    (ds_one (ds_ret (d_ix hK (d_var (pv 1)) (d_call (ok__law_draw t) hK (room.mono (by decide)) rfl t.m__law_draw t.F__law_draw.kp (b__law_draw t) (da_cons (d_var (pv 0)) (da_cons (d_callB (hK ▸ cd_len) call_len_seq rfl t.n_len (by decide +kernel) (da_cons (d_var (pv 1)) da_nil)) da_nil))) (fun _ _ => rfl))))
def T__law_integer : TDS := (dSeq (dPar3 2 3 4 (dCons (dCall 2 tf_draw (dCons (dVar 0) (dCons (dC (.int 9)) dNil))) (dCons (dBin gSub (dC (.int 1)) (dBin gMulA (dC (.int 2)) (dCall 2 tf_draw (dCons (dVar 0) (dCons (dC (.int 2)) dNil))))) (dCons (dC (.int 0)) dNil))))
    (dSeq (dIfS (dTest (dBin gLt (dVar 2) (dC (.int 6))))
    (dRet (dBin gMulA (dVar 3) (dCall 2 tf_draw (dCons (dVar 0) (dCons (dBin gIx (dTup (dCons (dC (.int 1)) (dCons (dC (.int 3)) (dCons (dC (.int 5)) (dCons (dC (.int 13)) (dCons (dC (.int 100)) (dCons (dC (.int 1000)) dNil))))))) (dVar 2)) dNil)))))
    dNext)
    (dSeq (dIfS (dTest (dBin gEq (dVar 2) (dC (.int 6))))
    (dRet (dBin gMulA (dVar 3) (dBin gSub (dUn gNinesB (dBin gMulA (dC (.int 6)) (dVar 1))) (dCall 2 tf_draw (dCons (dVar 0) (dCons (dC (.int 50)) dNil))))))
    dNext)
    (dSeq (dForR (dCons (dBin gAddA (dC (.int 1)) (dCall 2 tf_draw (dCons (dVar 0) (dCons (dVar 1) dNil)))) dNil) (dgName 5)
    (dAsg (dBin gAddA (dBin gMulA (dVar 4) (dBin gPow (dC (.int 10)) (dC (.int 6)))) (dCall 2 tf_draw (dCons (dVar 0) (dCons (dBin gPow (dC (.int 10)) (dC (.int 6))) dNil)))) (dgName 4)))
    (dRet (dBin gMulA (dVar 3) (dVar 4)))))))
def tf__law_integer : TF := fun _ ds Q => tfOf 6 T__law_integer (fun _ => False) ds Q
theorem ok__law_integer (t : Tx K mg) : FnG P w K mg base CX0 2 t.a__law_integer t.d__law_integer ["_law_deck_here", "_law_pieces"] (spD K 2 tf__law_integer) := by
  have sc := sc__law_integer
  exact fng_data (N := ["_law_deck_here", "_law_pieces", "_law_way", "_law_sign", "_law_found", "_law_piece"]) (T := T__law_integer) t.F__law_integer sc fun cdv A outer s H E F hK hF room =>
    (ds_cons (ds_par3 (i := 2) (j := 3) (l := 4) rfl sc.nd rfl rfl rfl (by decide) (by decide) (by decide) rfl rfl rfl (da_cons (d_call (ok__law_draw t) hK (room.mono (by decide)) rfl t.m__law_draw t.F__law_draw.kp (b__law_draw t) (da_cons (d_var (pv 0)) (da_cons d_int da_nil))) (da_cons (d_sub d_int (d_mulA d_int (d_call (ok__law_draw t) hK (room.mono (by decide)) rfl t.m__law_draw t.F__law_draw.kp (b__law_draw t) (da_cons (d_var (pv 0)) (da_cons d_int da_nil))))) (da_cons d_int da_nil))))
    (ds_cons (ds_if (dt_lt (d_var (pv 2)) d_int)
    (ds_one (ds_ret (d_mulA (d_var (pv 3)) (d_call (ok__law_draw t) hK (room.mono (by decide)) rfl t.m__law_draw t.F__law_draw.kp (b__law_draw t) (da_cons (d_var (pv 0)) (da_cons (d_ix hK (d_tup (da_cons d_int (da_cons d_int (da_cons d_int (da_cons d_int (da_cons d_int (da_cons d_int da_nil))))))) (d_var (pv 2)) (fun _ _ => rfl)) da_nil))))))
    ds_nil)
    (ds_cons (ds_if (dt_eq hK room.r.units (d_var (pv 2)) d_int)
    (ds_one (ds_ret (d_mulA (d_var (pv 3)) (d_sub (d_ninesB (hK ▸ t.mx) rfl t.n_int (d_mulA d_int (d_var (pv 1)))) (d_call (ok__law_draw t) hK (room.mono (by decide)) rfl t.m__law_draw t.F__law_draw.kp (b__law_draw t) (da_cons (d_var (pv 0)) (da_cons d_int da_nil)))))))
    ds_nil)
    (ds_cons (ds_forR1 PassesOwn.never rfl rfl t.n_range (da_cons (d_addA hK d_int (d_call (ok__law_draw t) hK (room.mono (by decide)) rfl t.m__law_draw t.F__law_draw.kp (b__law_draw t) (da_cons (d_var (pv 0)) (da_cons (d_var (pv 1)) da_nil)))) da_nil) (dg_name (pg_name (i := 5) sc.nd rfl (by first | exact Or.inl rfl | exact Or.inr rfl)))
    (ds_one (ds_set (i := 4) sc.nd rfl (by first | exact Or.inl rfl | exact Or.inr rfl) (d_addA hK (d_mulA (d_var (pv 4)) (d_pow d_int d_int)) (d_call (ok__law_draw t) hK (room.mono (by decide)) rfl t.m__law_draw t.F__law_draw.kp (b__law_draw t) (da_cons (d_var (pv 0)) (da_cons (d_pow d_int d_int) da_nil)))))))
    (ds_one (ds_ret (d_mulA (d_var (pv 3)) (d_var (pv 4)))))))))
def T__law_common : TDS := (dSeq (dPar 2 3 (dCons (dCB gAbs (dCons (dVar 0) dNil)) (dCons (dCB gAbs (dCons (dVar 1) dNil)) dNil)))
    (dSeq (dWhile (dTest (dBin gNe (dVar 3) (dC (.int 0))))
    (dPar 2 3 (dCons (dVar 3) (dCons (dBin gMod (dCB gInt (dCons (dVar 2) dNil)) (dVar 3)) dNil))))
    (dRet (dVar 2))))
def tf__law_common : TF := fun _ ds Q => tfOf 4 T__law_common (fun _ => False) ds Q
theorem ok__law_common (t : Tx K mg) : FnG P w K mg base CX0 1 t.a__law_common t.d__law_common ["_law_a", "_law_b"] (spD K 2 tf__law_common) := by
  have sc := sc__law_common
  exact fng_data (N := ["_law_a", "_law_b", "_law_near", "_law_far"]) (T := T__law_common) t.F__law_common sc fun cdv A outer s H E F hK hF room =>
    (ds_cons (ds_par (i := 2) (j := 3) rfl sc.nd rfl rfl (by decide) rfl rfl (da_cons (d_callB cd_abs call_abs rfl t.n_abs (by decide +kernel) (da_cons (d_var (pv 0)) da_nil)) (da_cons (d_callB cd_abs call_abs rfl t.n_abs (by decide +kernel) (da_cons (d_var (pv 1)) da_nil)) da_nil)))
    (ds_cons (ds_while PassesOwn.never (dt_ne hK room.r.units (d_var (pv 3)) d_int)
    (ds_one (ds_par (i := 2) (j := 3) rfl sc.nd rfl rfl (by decide) rfl rfl (da_cons (d_var (pv 3)) (da_cons (d_mod (d_callTy cd_int call_int1 rfl t.n_int (by decide +kernel) (da_cons (d_var (pv 2)) da_nil)) (d_var (pv 3))) da_nil)))))
    (ds_one (ds_ret (d_var (pv 2))))))
def T__law_least : TDS := (dSeq (dAsg (dCall 2 tf__law_common (dCons (dCall 2 tf__law_common (dCons (dVar 0) (dCons (dVar 1) dNil))) (dCons (dVar 2) dNil))) (dgName 3))
    (dRet (dTup (dCons (dBin gDivB (dVar 0) (dVar 3)) (dCons (dBin gDivB (dVar 1) (dVar 3)) (dCons (dBin gDivB (dVar 2) (dVar 3)) dNil))))))
def tf__law_least : TF := fun _ ds Q => tfOf 4 T__law_least (fun _ => False) ds Q
theorem ok__law_least (t : Tx K mg) : FnG P w K mg base CX0 2 t.a__law_least t.d__law_least ["_law_a", "_law_b", "_law_d"] (spD K 3 tf__law_least) := by
  have sc := sc__law_least
  exact fng_data (N := ["_law_a", "_law_b", "_law_d", "_law_common_here"]) (T := T__law_least) t.F__law_least sc fun cdv A outer s H E F hK hF room =>
    (ds_cons (ds_set (i := 3) sc.nd rfl (by first | exact Or.inl rfl | exact Or.inr rfl) (d_call (ok__law_common t) hK (room.mono (by decide)) rfl t.m__law_common t.F__law_common.kp (b__law_common t) (da_cons (d_call (ok__law_common t) hK (room.mono (by decide)) rfl t.m__law_common t.F__law_common.kp (b__law_common t) (da_cons (d_var (pv 0)) (da_cons (d_var (pv 1)) da_nil))) (da_cons (d_var (pv 2)) da_nil))))
    (ds_one (ds_ret (d_tup (da_cons (d_divB (d_var (pv 0)) (d_var (pv 3))) (da_cons (d_divB (d_var (pv 1)) (d_var (pv 3))) (da_cons (d_divB (d_var (pv 2)) (d_var (pv 3))) da_nil)))))))
def T__law_same : TDS := (dRet (dBin gEq (dCB gReprB (dCons (dVar 0) dNil)) (dCB gReprB (dCons (dVar 1) dNil))))
def tf__law_same : TF := fun _ ds Q => tfOf 2 T__law_same (fun _ => False) ds Q
theorem ok__law_same (t : Tx K mg) : FnG P w K mg base CX0 1 t.a__law_same t.d__law_same ["_law_told", "_law_due"] (spD K 2 tf__law_same) := by
  have sc := sc__law_same
  exact fng_data (N := ["_law_told", "_law_due"]) (T := T__law_same) t.F__law_same sc fun cdv A outer s H E F hK hF room =>
    (ds_one (ds_ret (d_eq hK room.r.units (d_reprB hK (hK ▸ t.mx) room.g (units80 room.r) rfl t.n_repr (da_cons (d_var (pv 0)) da_nil)) (d_reprB hK (hK ▸ t.mx) room.g (units80 room.r) rfl t.n_repr (da_cons (d_var (pv 1)) da_nil)))))
def T__law_plus : TDS := (dRet (dCall 3 tf__law_least (dCons (dBin gAddA (dBin gMulA (dBin gIx (dVar 0) (dC (.int 0))) (dBin gIx (dVar 1) (dC (.int 2)))) (dBin gMulA (dBin gIx (dVar 1) (dC (.int 0))) (dBin gIx (dVar 0) (dC (.int 2))))) (dCons (dBin gAddA (dBin gMulA (dBin gIx (dVar 0) (dC (.int 1))) (dBin gIx (dVar 1) (dC (.int 2)))) (dBin gMulA (dBin gIx (dVar 1) (dC (.int 1))) (dBin gIx (dVar 0) (dC (.int 2))))) (dCons (dBin gMulA (dBin gIx (dVar 0) (dC (.int 2))) (dBin gIx (dVar 1) (dC (.int 2)))) dNil)))))
def tf__law_plus : TF := fun _ ds Q => tfOf 2 T__law_plus (fun _ => False) ds Q
theorem ok__law_plus (t : Tx K mg) : FnG P w K mg base CX0 3 t.a__law_plus t.d__law_plus ["_law_p", "_law_q"] (spD K 2 tf__law_plus) := by
  have sc := sc__law_plus
  exact fng_data (N := ["_law_p", "_law_q"]) (T := T__law_plus) t.F__law_plus sc fun cdv A outer s H E F hK hF room =>
    (ds_one (ds_ret (d_call (ok__law_least t) hK (room.mono (by decide)) rfl t.m__law_least t.F__law_least.kp (b__law_least t) (da_cons (d_addA hK (d_mulA (d_ix hK (d_var (pv 0)) d_int (fun _ _ => rfl)) (d_ix hK (d_var (pv 1)) d_int (fun _ _ => rfl))) (d_mulA (d_ix hK (d_var (pv 1)) d_int (fun _ _ => rfl)) (d_ix hK (d_var (pv 0)) d_int (fun _ _ => rfl)))) (da_cons (d_addA hK (d_mulA (d_ix hK (d_var (pv 0)) d_int (fun _ _ => rfl)) (d_ix hK (d_var (pv 1)) d_int (fun _ _ => rfl))) (d_mulA (d_ix hK (d_var (pv 1)) d_int (fun _ _ => rfl)) (d_ix hK (d_var (pv 0)) d_int (fun _ _ => rfl)))) (da_cons (d_mulA (d_ix hK (d_var (pv 0)) d_int (fun _ _ => rfl)) (d_ix hK (d_var (pv 1)) d_int (fun _ _ => rfl))) da_nil))))))
def T__law_opposite : TDS := (dRet (dTup (dCons (dUn gNeg (dBin gIx (dVar 0) (dC (.int 0)))) (dCons (dUn gNeg (dBin gIx (dVar 0) (dC (.int 1)))) (dCons (dBin gIx (dVar 0) (dC (.int 2))) dNil)))))
def tf__law_opposite : TF := fun _ ds Q => tfOf 1 T__law_opposite (fun _ => False) ds Q
theorem ok__law_opposite (t : Tx K mg) : FnG P w K mg base CX0 1 t.a__law_opposite t.d__law_opposite ["_law_p"] (spD K 1 tf__law_opposite) := by
  have sc := sc__law_opposite
  exact fng_data (N := ["_law_p"]) (T := T__law_opposite) t.F__law_opposite sc fun cdv A outer s H E F hK hF room =>
    (ds_one (ds_ret (d_tup (da_cons (d_neg (d_ix hK (d_var (pv 0)) d_int (fun _ _ => rfl))) (da_cons (d_neg (d_ix hK (d_var (pv 0)) d_int (fun _ _ => rfl))) (da_cons (d_ix hK (d_var (pv 0)) d_int (fun _ _ => rfl)) da_nil))))))
def T__law_times : TDS := (dSeq (dAsg (dTup (dCons (dVar 0) (dCons (dVar 1) dNil))) (dgTup 2 (dgCons (dgTup 3 (dgCons (dgName 2) (dgCons (dgName 3) (dgCons (dgName 4) dgNil)))) (dgCons (dgTup 3 (dgCons (dgName 5) (dgCons (dgName 6) (dgCons (dgName 7) dgNil)))) dgNil))))
    (dRet (dCall 3 tf__law_least (dCons (dBin gAddA (dBin gMulA (dVar 2) (dVar 5)) (dBin gMulA (dVar 3) (dVar 6))) (dCons (dBin gAddA (dBin gAddA (dBin gMulA (dVar 2) (dVar 6)) (dBin gMulA (dVar 3) (dVar 5))) (dBin gMulA (dVar 3) (dVar 6))) (dCons (dBin gMulA (dVar 4) (dVar 7)) dNil))))))
def tf__law_times : TF := fun _ ds Q => tfOf 8 T__law_times (fun _ => False) ds Q
theorem ok__law_times (t : Tx K mg) : FnG P w K mg base CX0 3 t.a__law_times t.d__law_times ["_law_p", "_law_q"] (spD K 2 tf__law_times) := by
  have sc := sc__law_times
  exact fng_data (N := ["_law_p", "_law_q", "_law_a", "_law_b", "_law_d", "_law_c", "_law_e", "_law_f"]) (T := T__law_times) t.F__law_times sc fun cdv A outer s H E F hK hF room =>
    (ds_cons (ds_asg (d_tup (da_cons (d_var (pv 0)) (da_cons (d_var (pv 1)) da_nil))) (dg_tup hK rfl (dgs_cons (dg_tup hK rfl (dgs_cons (dg_name (pg_name (i := 2) sc.nd rfl (by first | exact Or.inl rfl | exact Or.inr rfl))) (dgs_cons (dg_name (pg_name (i := 3) sc.nd rfl (by first | exact Or.inl rfl | exact Or.inr rfl))) (dgs_cons (dg_name (pg_name (i := 4) sc.nd rfl (by first | exact Or.inl rfl | exact Or.inr rfl))) dgs_nil)))) (dgs_cons (dg_tup hK rfl (dgs_cons (dg_name (pg_name (i := 5) sc.nd rfl (by first | exact Or.inl rfl | exact Or.inr rfl))) (dgs_cons (dg_name (pg_name (i := 6) sc.nd rfl (by first | exact Or.inl rfl | exact Or.inr rfl))) (dgs_cons (dg_name (pg_name (i := 7) sc.nd rfl (by first | exact Or.inl rfl | exact Or.inr rfl))) dgs_nil)))) dgs_nil))))
    (ds_one (ds_ret (d_call (ok__law_least t) hK (room.mono (by decide)) rfl t.m__law_least t.F__law_least.kp (b__law_least t) (da_cons (d_addA hK (d_mulA (d_var (pv 2)) (d_var (pv 5))) (d_mulA (d_var (pv 3)) (d_var (pv 6)))) (da_cons (d_addA hK (d_addA hK (d_mulA (d_var (pv 2)) (d_var (pv 6))) (d_mulA (d_var (pv 3)) (d_var (pv 5)))) (d_mulA (d_var (pv 3)) (d_var (pv 6)))) (da_cons (d_mulA (d_var (pv 4)) (d_var (pv 7))) da_nil)))))))
def T__law_quotient : TDS := (dSeq (dAsg (dTup (dCons (dVar 0) (dCons (dVar 1) dNil))) (dgTup 2 (dgCons (dgTup 3 (dgCons (dgName 2) (dgCons (dgName 3) (dgCons (dgName 4) dgNil)))) (dgCons (dgTup 3 (dgCons (dgName 5) (dgCons (dgName 6) (dgCons (dgName 7) dgNil)))) dgNil))))
    (dSeq (dAsg (dBin gSub (dBin gAddA (dBin gMulA (dVar 5) (dVar 5)) (dBin gMulA (dVar 5) (dVar 6))) (dBin gMulA (dVar 6) (dVar 6))) (dgName 8))
    (dSeq (dAsg (dIf (dTest (dBin gGt (dVar 8) (dC (.int 0)))) (dC (.int 1)) (dUn gNeg (dC (.int 1)))) (dgName 9))
    (dRet (dCall 3 tf__law_least (dCons (dBin gMulA (dBin gMulA (dVar 9) (dVar 7)) (dBin gSub (dBin gMulA (dVar 2) (dBin gAddA (dVar 5) (dVar 6))) (dBin gMulA (dVar 3) (dVar 6)))) (dCons (dBin gMulA (dBin gMulA (dVar 9) (dVar 7)) (dBin gSub (dBin gMulA (dVar 3) (dVar 5)) (dBin gMulA (dVar 2) (dVar 6)))) (dCons (dBin gMulA (dBin gMulA (dVar 9) (dVar 8)) (dVar 4)) dNil))))))))
def tf__law_quotient : TF := fun _ ds Q => tfOf 10 T__law_quotient (fun _ => False) ds Q
theorem ok__law_quotient (t : Tx K mg) : FnG P w K mg base CX0 3 t.a__law_quotient t.d__law_quotient ["_law_p", "_law_q"] (spD K 2 tf__law_quotient) := by
  have sc := sc__law_quotient
  exact fng_data (N := ["_law_p", "_law_q", "_law_a", "_law_b", "_law_d", "_law_c", "_law_e", "_law_f", "_law_norm", "_law_sign"]) (T := T__law_quotient) t.F__law_quotient sc fun cdv A outer s H E F hK hF room =>
    (ds_cons (ds_asg (d_tup (da_cons (d_var (pv 0)) (da_cons (d_var (pv 1)) da_nil))) (dg_tup hK rfl (dgs_cons (dg_tup hK rfl (dgs_cons (dg_name (pg_name (i := 2) sc.nd rfl (by first | exact Or.inl rfl | exact Or.inr rfl))) (dgs_cons (dg_name (pg_name (i := 3) sc.nd rfl (by first | exact Or.inl rfl | exact Or.inr rfl))) (dgs_cons (dg_name (pg_name (i := 4) sc.nd rfl (by first | exact Or.inl rfl | exact Or.inr rfl))) dgs_nil)))) (dgs_cons (dg_tup hK rfl (dgs_cons (dg_name (pg_name (i := 5) sc.nd rfl (by first | exact Or.inl rfl | exact Or.inr rfl))) (dgs_cons (dg_name (pg_name (i := 6) sc.nd rfl (by first | exact Or.inl rfl | exact Or.inr rfl))) (dgs_cons (dg_name (pg_name (i := 7) sc.nd rfl (by first | exact Or.inl rfl | exact Or.inr rfl))) dgs_nil)))) dgs_nil))))
    (ds_cons (ds_set (i := 8) sc.nd rfl (by first | exact Or.inl rfl | exact Or.inr rfl) (d_sub (d_addA hK (d_mulA (d_var (pv 5)) (d_var (pv 5))) (d_mulA (d_var (pv 5)) (d_var (pv 6)))) (d_mulA (d_var (pv 6)) (d_var (pv 6)))))
    (ds_cons (ds_set (i := 9) sc.nd rfl (by first | exact Or.inl rfl | exact Or.inr rfl) (d_if (dt_gt (d_var (pv 8)) d_int) d_int (d_neg d_int)))
    (ds_one (ds_ret (d_call (ok__law_least t) hK (room.mono (by decide)) rfl t.m__law_least t.F__law_least.kp (b__law_least t) (da_cons (d_mulA (d_mulA (d_var (pv 9)) (d_var (pv 7))) (d_sub (d_mulA (d_var (pv 2)) (d_addA hK (d_var (pv 5)) (d_var (pv 6)))) (d_mulA (d_var (pv 3)) (d_var (pv 6))))) (da_cons (d_mulA (d_mulA (d_var (pv 9)) (d_var (pv 7))) (d_sub (d_mulA (d_var (pv 3)) (d_var (pv 5))) (d_mulA (d_var (pv 2)) (d_var (pv 6))))) (da_cons (d_mulA (d_mulA (d_var (pv 9)) (d_var (pv 8))) (d_var (pv 4))) da_nil)))))))))
def T__law_conjugate : TDS := (dRet (dCall 3 tf__law_least (dCons (dBin gAddA (dBin gIx (dVar 0) (dC (.int 0))) (dBin gIx (dVar 0) (dC (.int 1)))) (dCons (dUn gNeg (dBin gIx (dVar 0) (dC (.int 1)))) (dCons (dBin gIx (dVar 0) (dC (.int 2))) dNil)))))
def tf__law_conjugate : TF := fun _ ds Q => tfOf 1 T__law_conjugate (fun _ => False) ds Q
theorem ok__law_conjugate (t : Tx K mg) : FnG P w K mg base CX0 3 t.a__law_conjugate t.d__law_conjugate ["_law_p"] (spD K 1 tf__law_conjugate) := by
  have sc := sc__law_conjugate
  exact fng_data (N := ["_law_p"]) (T := T__law_conjugate) t.F__law_conjugate sc fun cdv A outer s H E F hK hF room =>
    (ds_one (ds_ret (d_call (ok__law_least t) hK (room.mono (by decide)) rfl t.m__law_least t.F__law_least.kp (b__law_least t) (da_cons (d_addA hK (d_ix hK (d_var (pv 0)) d_int (fun _ _ => rfl)) (d_ix hK (d_var (pv 0)) d_int (fun _ _ => rfl))) (da_cons (d_neg (d_ix hK (d_var (pv 0)) d_int (fun _ _ => rfl))) (da_cons (d_ix hK (d_var (pv 0)) d_int (fun _ _ => rfl)) da_nil))))))
def T__law_golden : TDS := (dSeq (dAsg (dCall 2 tf__law_pick (dCons (dVar 0) (dCons (dTup (dCons (dC (.int 1)) (dCons (dC (.int 2)) (dCons (dC (.int 3)) (dCons (dC (.int 5)) (dCons (dC (.int 4)) (dCons (dC (.int 6)) (dCons (dC (.int 10)) (dCons (dC (.int 11)) (dCons (dC (.int 12)) (dCons (dC (.int 0)) dNil))))))))))) dNil))) (dgName 2))
    (dSeq (dIfS (dTest (dBin gEq (dVar 2) (dC (.int 0))))
    (dAsg (dBin gAddA (dC (.int 1)) (dCB gAbs (dCons (dCall 2 tf__law_integer (dCons (dVar 0) (dCons (dVar 1) dNil))) dNil))) (dgName 2))
    dNext)
    (dRet (dTup (dCons (dCall 2 tf__law_integer (dCons (dVar 0) (dCons (dVar 1) dNil))) (dCons (dCall 2 tf__law_integer (dCons (dVar 0) (dCons (dVar 1) dNil))) (dCons (dVar 2) dNil)))))))
def tf__law_golden : TF := fun _ ds Q => tfOf 3 T__law_golden (fun _ => False) ds Q
theorem ok__law_golden (t : Tx K mg) : FnG P w K mg base CX0 3 t.a__law_golden t.d__law_golden ["_law_deck_here", "_law_pieces"] (spD K 2 tf__law_golden) := by
  have sc := sc__law_golden
  exact fng_data (N := ["_law_deck_here", "_law_pieces", "_law_d"]) (T := T__law_golden) t.F__law_golden sc fun cdv A outer s H E F hK hF room =>
    (ds_cons (ds_set (i := 2) sc.nd rfl (by first | exact Or.inl rfl | exact Or.inr rfl) (d_call (ok__law_pick t) hK (room.mono (by decide)) rfl t.m__law_pick t.F__law_pick.kp (b__law_pick t) (da_cons (d_var (pv 0)) (da_cons (d_tup (da_cons d_int (da_cons d_int (da_cons d_int (da_cons d_int (da_cons d_int (da_cons d_int (da_cons d_int (da_cons d_int (da_cons d_int (da_cons d_int da_nil))))))))))) da_nil))))
    (ds_cons (ds_if (dt_eq hK room.r.units (d_var (pv 2)) d_int)
    (ds_one (ds_set (i := 2) sc.nd rfl (by first | exact Or.inl rfl | exact Or.inr rfl) (d_addA hK d_int (d_callB cd_abs call_abs rfl t.n_abs (by decide +kernel) (da_cons (d_call (ok__law_integer t) hK (room.mono (by decide)) rfl t.m__law_integer t.F__law_integer.kp (b__law_integer t) (da_cons (d_var (pv 0)) (da_cons (d_var (pv 1)) da_nil))) da_nil)))))
    ds_nil)
    (ds_one (ds_ret (d_tup (da_cons (d_call (ok__law_integer t) hK (room.mono (by decide)) rfl t.m__law_integer t.F__law_integer.kp (b__law_integer t) (da_cons (d_var (pv 0)) (da_cons (d_var (pv 1)) da_nil))) (da_cons (d_call (ok__law_integer t) hK (room.mono (by decide)) rfl t.m__law_integer t.F__law_integer.kp (b__law_integer t) (da_cons (d_var (pv 0)) (da_cons (d_var (pv 1)) da_nil))) (da_cons (d_var (pv 2)) da_nil))))))))
def T__law_other : TDS := (dSeq (dPar 3 4 (dCons (dCall 2 tf_draw (dCons (dVar 0) (dCons (dC (.int 9)) dNil))) (dCons (dBin gAddA (dC (.int 1)) (dCall 2 tf_draw (dCons (dVar 0) (dCons (dC (.int 9)) dNil)))) dNil)))
    (dSeq (dIfS (dTest (dBin gEq (dVar 3) (dC (.int 0))))
    (dRet (dTup (dCons (dBin gMulA (dVar 4) (dBin gIx (dVar 1) (dC (.int 0)))) (dCons (dBin gMulA (dVar 4) (dBin gIx (dVar 1) (dC (.int 1)))) (dCons (dBin gMulA (dVar 4) (dBin gIx (dVar 1) (dC (.int 2)))) dNil)))))
    dNext)
    (dSeq (dIfS (dTest (dBin gEq (dVar 3) (dC (.int 1))))
    (dRet (dTup (dCons (dBin gMulA (dUn gNeg (dVar 4)) (dBin gIx (dVar 1) (dC (.int 0)))) (dCons (dBin gMulA (dUn gNeg (dVar 4)) (dBin gIx (dVar 1) (dC (.int 1)))) (dCons (dBin gMulA (dVar 4) (dBin gIx (dVar 1) (dC (.int 2)))) dNil)))))
    dNext)
    (dSeq (dIfS (dTest (dBin gEq (dVar 3) (dC (.int 2))))
    (dRet (dCall 1 tf__law_conjugate (dCons (dVar 1) dNil)))
    dNext)
    (dSeq (dIfS (dTest (dBin gEq (dVar 3) (dC (.int 3))))
    (dRet (dTup (dCons (dC (.int 0)) (dCons (dC (.int 0)) (dCons (dVar 4) dNil)))))
    dNext)
    (dSeq (dIfS (dTest (dBin gEq (dVar 3) (dC (.int 4))))
    (dRet (dTup (dCons (dBin gIx (dVar 1) (dC (.int 1))) (dCons (dBin gIx (dVar 1) (dC (.int 0))) (dCons (dBin gIx (dVar 1) (dC (.int 2))) dNil)))))
    dNext)
    (dRet (dCall 2 tf__law_golden (dCons (dVar 0) (dCons (dVar 2) dNil))))))))))
def tf__law_other : TF := fun _ ds Q => tfOf 5 T__law_other (fun _ => False) ds Q
theorem ok__law_other (t : Tx K mg) : FnG P w K mg base CX0 4 t.a__law_other t.d__law_other ["_law_deck_here", "_law_p", "_law_pieces"] (spD K 3 tf__law_other) := by
  have sc := sc__law_other
  exact fng_data (N := ["_law_deck_here", "_law_p", "_law_pieces", "_law_way", "_law_factor"]) (T := T__law_other) t.F__law_other sc fun cdv A outer s H E F hK hF room =>
    (ds_cons (ds_par (i := 3) (j := 4) rfl sc.nd rfl rfl (by decide) rfl rfl (da_cons (d_call (ok__law_draw t) hK (room.mono (by decide)) rfl t.m__law_draw t.F__law_draw.kp (b__law_draw t) (da_cons (d_var (pv 0)) (da_cons d_int da_nil))) (da_cons (d_addA hK d_int (d_call (ok__law_draw t) hK (room.mono (by decide)) rfl t.m__law_draw t.F__law_draw.kp (b__law_draw t) (da_cons (d_var (pv 0)) (da_cons d_int da_nil)))) da_nil)))
    (ds_cons (ds_if (dt_eq hK room.r.units (d_var (pv 3)) d_int)
    (ds_one (ds_ret (d_tup (da_cons (d_mulA (d_var (pv 4)) (d_ix hK (d_var (pv 1)) d_int (fun _ _ => rfl))) (da_cons (d_mulA (d_var (pv 4)) (d_ix hK (d_var (pv 1)) d_int (fun _ _ => rfl))) (da_cons (d_mulA (d_var (pv 4)) (d_ix hK (d_var (pv 1)) d_int (fun _ _ => rfl))) da_nil))))))
    ds_nil)
    (ds_cons (ds_if (dt_eq hK room.r.units (d_var (pv 3)) d_int)
    (ds_one (ds_ret (d_tup (da_cons (d_mulA (d_neg (d_var (pv 4))) (d_ix hK (d_var (pv 1)) d_int (fun _ _ => rfl))) (da_cons (d_mulA (d_neg (d_var (pv 4))) (d_ix hK (d_var (pv 1)) d_int (fun _ _ => rfl))) (da_cons (d_mulA (d_var (pv 4)) (d_ix hK (d_var (pv 1)) d_int (fun _ _ => rfl))) da_nil))))))
    ds_nil)
    (ds_cons (ds_if (dt_eq hK room.r.units (d_var (pv 3)) d_int)
    (ds_one (ds_ret (d_call (ok__law_conjugate t) hK (room.mono (by decide)) rfl t.m__law_conjugate t.F__law_conjugate.kp (b__law_conjugate t) (da_cons (d_var (pv 1)) da_nil))))
    ds_nil)
    (ds_cons (ds_if (dt_eq hK room.r.units (d_var (pv 3)) d_int)
    (ds_one (ds_ret (d_tup (da_cons d_int (da_cons d_int (da_cons (d_var (pv 4)) da_nil))))))
    ds_nil)
    (ds_cons (ds_if (dt_eq hK room.r.units (d_var (pv 3)) d_int)
    (ds_one (ds_ret (d_tup (da_cons (d_ix hK (d_var (pv 1)) d_int (fun _ _ => rfl)) (da_cons (d_ix hK (d_var (pv 1)) d_int (fun _ _ => rfl)) (da_cons (d_ix hK (d_var (pv 1)) d_int (fun _ _ => rfl)) da_nil))))))
    ds_nil)
    (ds_one (ds_ret (d_call (ok__law_golden t) hK (room.mono (by decide)) rfl t.m__law_golden t.F__law_golden.kp (b__law_golden t) (da_cons (d_var (pv 0)) (da_cons (d_var (pv 2)) da_nil)))))))))))
theorem kb_quotient_other_one (t : Tx K mg) : KB t.d_quotient ["one", "other"] ["other", "one"] [1, 0] := kb_of t.F_quotient fun _ _ _ _ _ _ ws hl => match ws, hl with | [_, _], _ => rfl
def T__law_divided : TDS := (dSeq (dTryN [⟨mm_DividedByZero, none, fun a y => (dRet (dC (.str "zero")))⟩]
    (dAsg (dIf (dTruI (dVar 2)) (dCallKX 2 2 [1, 0] tf_quotient (dCons (dVar 1) (dCons (dVar 0) dNil))) (dCallX 2 tf_quotient (dCons (dVar 0) (dCons (dVar 1) dNil)))) (dgName 3)))
    (dRet (dVar 3)))
def tf__law_divided : TF := fun _ ds Q => tfOf 4 T__law_divided (fun _ => False) ds Q
theorem ok__law_divided (t : Tx K mg) : FnG P w K mg base CX0 5 t.a__law_divided t.d__law_divided ["_law_p", "_law_q", "_law_is_named"] (spD K 3 tf__law_divided) := by
  have sc := sc__law_divided
  exact fng_data (N := ["_law_p", "_law_q", "_law_is_named", "_law_told"]) (T := T__law_divided) t.F__law_divided sc fun cdv A outer s H E F hK hF room =>
    (ds_cons (ds_tryN hK rfl rfl sc.nd takes_none5 (wok_none hF) (fun W pn xe F' tk' po' sub' wo' => have hK := sub'.k.trans hK
    (ds_one (ds_set (i := 3) sc.nd rfl (by first | exact Or.inl rfl | exact Or.inr rfl) (d_if (dt_tru (d_var (pv 2))) (d_callKX (ok_quotient t) tk' wo' hK (room.mono (by decide)) rfl t.m_quotient t.F_quotient.kp (kb_quotient_other_one t) (dk_cons (d_var (pv 1)) (dk_cons (d_var (pv 0)) dk_nil))) (d_callX (ok_quotient t) tk' wo' hK (room.mono (by decide)) rfl t.m_quotient t.F_quotient.kp (b_quotient t) (da_cons (d_var (pv 0)) (da_cons (d_var (pv 1)) da_nil)))))))
    (.one (cl := ⟨mm_DividedByZero, none, fun a y => (dRet (dC (.str "zero")))⟩) ⟨rfl, by decide, .inl t.R_DividedByZero.2⟩ rfl (hm_DividedByZero t) (fun a oe cls d pn y F' hz hv S => have hKo := hK; have hK := S.k.trans hK; (ds_one (ds_ret d_str))) .nil))
    (ds_one (ds_ret (d_var (pv 3)))))
theorem kb_conjugate_number (t : Tx K mg) : KB t.d_conjugate ["number"] ["number"] [0] := kb_of t.F_conjugate fun _ _ _ _ _ _ ws hl => match ws, hl with | [_], _ => rfl
theorem kb_minus_other_one (t : Tx K mg) : KB t.d_minus ["one", "other"] ["other", "one"] [1, 0] := kb_of t.F_minus fun _ _ _ _ _ _ ws hl => match ws, hl with | [_, _], _ => rfl
theorem kb_plus_other_one (t : Tx K mg) : KB t.d_plus ["one", "other"] ["other", "one"] [1, 0] := kb_of t.F_plus fun _ _ _ _ _ _ ws hl => match ws, hl with | [_, _], _ => rfl
theorem kb_reduced_number (t : Tx K mg) : KB t.d_reduced ["number"] ["number"] [0] := kb_of t.F_reduced fun _ _ _ _ _ _ ws hl => match ws, hl with | [_], _ => rfl
theorem kb_times_other_one (t : Tx K mg) : KB t.d_times ["one", "other"] ["other", "one"] [1, 0] := kb_of t.F_times fun _ _ _ _ _ _ ws hl => match ws, hl with | [_, _], _ => rfl
def T__law_are_right : TDS := (dSeq (dAsg (dAnd (dBin gEq (dBin gIx (dVar 2) (dC (.int 0))) (dC (.int 0))) (dBin gEq (dBin gIx (dVar 2) (dC (.int 1))) (dC (.int 0)))) (dgName 3))
    (dSeq (dAsg (dLst (dCons (dCall 3 tf__law_least (dCons (dBin gIx (dVar 1) (dC (.int 0))) (dCons (dBin gIx (dVar 1) (dC (.int 1))) (dCons (dBin gIx (dVar 1) (dC (.int 2))) dNil)))) (dCons (dCall 2 tf__law_plus (dCons (dVar 1) (dCons (dVar 2) dNil))) (dCons (dCall 2 tf__law_plus (dCons (dVar 1) (dCons (dCall 1 tf__law_opposite (dCons (dVar 2) dNil)) dNil))) (dCons (dCall 2 tf__law_times (dCons (dVar 1) (dCons (dVar 2) dNil))) dNil))))) (dgName 4))
    (dSeq (dAsg (dBin gAddA (dVar 4) (dLst (dCons (dIf (dTruI (dVar 3)) (dC (.str "zero")) (dCall 2 tf__law_quotient (dCons (dVar 1) (dCons (dVar 2) dNil)))) (dCons (dCall 1 tf__law_conjugate (dCons (dVar 1) dNil)) dNil)))) (dgName 4))
    (dSeq (dAsg (dBin gEq (dCall 2 tf_draw (dCons (dVar 0) (dCons (dC (.int 2)) dNil))) (dC (.int 0))) (dgName 5))
    (dSeq (dIfS (dTruI (dVar 5))
    (dAsg (dLst (dCons (dCallKX 1 1 [0] tf_reduced (dCons (dVar 1) dNil)) (dCons (dCallKX 2 2 [1, 0] tf_plus (dCons (dVar 2) (dCons (dVar 1) dNil))) (dCons (dCallKX 2 2 [1, 0] tf_minus (dCons (dVar 2) (dCons (dVar 1) dNil))) (dCons (dCallKX 2 2 [1, 0] tf_times (dCons (dVar 2) (dCons (dVar 1) dNil))) dNil))))) (dgName 6))
    (dAsg (dLst (dCons (dCallX 1 tf_reduced (dCons (dVar 1) dNil)) (dCons (dCallX 2 tf_plus (dCons (dVar 1) (dCons (dVar 2) dNil))) (dCons (dCallX 2 tf_minus (dCons (dVar 1) (dCons (dVar 2) dNil))) (dCons (dCallX 2 tf_times (dCons (dVar 1) (dCons (dVar 2) dNil))) dNil))))) (dgName 6)))
    (dSeq (dAsg (dBin gAddA (dVar 6) (dLst (dCons (dCall 3 tf__law_divided (dCons (dVar 1) (dCons (dVar 2) (dCons (dVar 5) dNil)))) (dCons (dIf (dTruI (dVar 5)) (dCallKX 1 1 [0] tf_conjugate (dCons (dVar 1) dNil)) (dCallX 1 tf_conjugate (dCons (dVar 1) dNil))) dNil)))) (dgName 6))
    (dRet (dAnd (dCall 2 tf__law_same (dCons (dVar 6) (dCons (dVar 4) dNil))) (dCall 2 tf__law_same (dCons (dLcT (dTup (dCons (dVar 1) (dCons (dVar 2) (dCons (dBin gIx (dVar 6) (dC (.int 0))) (dCons (dBin gIx (dVar 6) (dC (.int 3))) dNil))))) 7 dYes (dCall 1 tf_is_golden (dCons (dVar 7) dNil))) (dCons (dBin gMulA (dLst (dCons (dC (.bl true)) dNil)) (dC (.int 4))) dNil)))))))))))
def tf__law_are_right : TF := fun _ ds Q => tfOf 8 T__law_are_right (fun _ => False) ds Q
theorem ok__law_are_right (t : Tx K mg) : FnG P w K mg base CX0 6 t.a__law_are_right t.d__law_are_right ["_law_deck_here", "_law_p", "_law_q"] (spD K 3 tf__law_are_right) := by
  have sc := sc__law_are_right
  exact fng_data (N := ["_law_deck_here", "_law_p", "_law_q", "_law_zero", "_law_due", "_law_is_named", "_law_told", "_law_it"]) (T := T__law_are_right) t.F__law_are_right sc fun cdv A outer s H E F hK hF room =>
    (ds_cons (ds_set (i := 3) sc.nd rfl (by first | exact Or.inl rfl | exact Or.inr rfl) (d_and (d_eq hK room.r.units (d_ix hK (d_var (pv 2)) d_int (fun _ _ => rfl)) d_int) (d_one (d_eq hK room.r.units (d_ix hK (d_var (pv 2)) d_int (fun _ _ => rfl)) d_int))))
    (ds_cons (ds_set (i := 4) sc.nd rfl (by first | exact Or.inl rfl | exact Or.inr rfl) (d_lst (da_cons (d_call (ok__law_least t) hK (room.mono (by decide)) rfl t.m__law_least t.F__law_least.kp (b__law_least t) (da_cons (d_ix hK (d_var (pv 1)) d_int (fun _ _ => rfl)) (da_cons (d_ix hK (d_var (pv 1)) d_int (fun _ _ => rfl)) (da_cons (d_ix hK (d_var (pv 1)) d_int (fun _ _ => rfl)) da_nil)))) (da_cons (d_call (ok__law_plus t) hK (room.mono (by decide)) rfl t.m__law_plus t.F__law_plus.kp (b__law_plus t) (da_cons (d_var (pv 1)) (da_cons (d_var (pv 2)) da_nil))) (da_cons (d_call (ok__law_plus t) hK (room.mono (by decide)) rfl t.m__law_plus t.F__law_plus.kp (b__law_plus t) (da_cons (d_var (pv 1)) (da_cons (d_call (ok__law_opposite t) hK (room.mono (by decide)) rfl t.m__law_opposite t.F__law_opposite.kp (b__law_opposite t) (da_cons (d_var (pv 2)) da_nil)) da_nil))) (da_cons (d_call (ok__law_times t) hK (room.mono (by decide)) rfl t.m__law_times t.F__law_times.kp (b__law_times t) (da_cons (d_var (pv 1)) (da_cons (d_var (pv 2)) da_nil))) da_nil))))))
    (ds_cons (ds_set (i := 4) sc.nd rfl (by first | exact Or.inl rfl | exact Or.inr rfl) (d_addA hK (d_var (pv 4)) (d_lst (da_cons (d_if (dt_tru (d_var (pv 3))) d_str (d_call (ok__law_quotient t) hK (room.mono (by decide)) rfl t.m__law_quotient t.F__law_quotient.kp (b__law_quotient t) (da_cons (d_var (pv 1)) (da_cons (d_var (pv 2)) da_nil)))) (da_cons (d_call (ok__law_conjugate t) hK (room.mono (by decide)) rfl t.m__law_conjugate t.F__law_conjugate.kp (b__law_conjugate t) (da_cons (d_var (pv 1)) da_nil)) da_nil)))))
    (ds_cons (ds_set (i := 5) sc.nd rfl (by first | exact Or.inl rfl | exact Or.inr rfl) (d_eq hK room.r.units (d_call (ok__law_draw t) hK (room.mono (by decide)) rfl t.m__law_draw t.F__law_draw.kp (b__law_draw t) (da_cons (d_var (pv 0)) (da_cons d_int da_nil))) d_int))
    (ds_cons (ds_if (dt_tru (d_var (pv 5)))
    (ds_one (ds_set (i := 6) sc.nd rfl (by first | exact Or.inl rfl | exact Or.inr rfl) (d_lst (da_cons (d_callKX (ok_reduced t) takes_none5 (wok_none hF) hK (room.mono (by decide)) rfl t.m_reduced t.F_reduced.kp (kb_reduced_number t) (dk_cons (d_var (pv 1)) dk_nil)) (da_cons (d_callKX (ok_plus t) takes_none5 (wok_none hF) hK (room.mono (by decide)) rfl t.m_plus t.F_plus.kp (kb_plus_other_one t) (dk_cons (d_var (pv 2)) (dk_cons (d_var (pv 1)) dk_nil))) (da_cons (d_callKX (ok_minus t) takes_none5 (wok_none hF) hK (room.mono (by decide)) rfl t.m_minus t.F_minus.kp (kb_minus_other_one t) (dk_cons (d_var (pv 2)) (dk_cons (d_var (pv 1)) dk_nil))) (da_cons (d_callKX (ok_times t) takes_none5 (wok_none hF) hK (room.mono (by decide)) rfl t.m_times t.F_times.kp (kb_times_other_one t) (dk_cons (d_var (pv 2)) (dk_cons (d_var (pv 1)) dk_nil))) da_nil)))))))
    (ds_one (ds_set (i := 6) sc.nd rfl (by first | exact Or.inl rfl | exact Or.inr rfl) (d_lst (da_cons (d_callX (ok_reduced t) takes_none5 (wok_none hF) hK (room.mono (by decide)) rfl t.m_reduced t.F_reduced.kp (b_reduced t) (da_cons (d_var (pv 1)) da_nil)) (da_cons (d_callX (ok_plus t) takes_none5 (wok_none hF) hK (room.mono (by decide)) rfl t.m_plus t.F_plus.kp (b_plus t) (da_cons (d_var (pv 1)) (da_cons (d_var (pv 2)) da_nil))) (da_cons (d_callX (ok_minus t) takes_none5 (wok_none hF) hK (room.mono (by decide)) rfl t.m_minus t.F_minus.kp (b_minus t) (da_cons (d_var (pv 1)) (da_cons (d_var (pv 2)) da_nil))) (da_cons (d_callX (ok_times t) takes_none5 (wok_none hF) hK (room.mono (by decide)) rfl t.m_times t.F_times.kp (b_times t) (da_cons (d_var (pv 1)) (da_cons (d_var (pv 2)) da_nil))) da_nil))))))))
    (ds_cons (ds_set (i := 6) sc.nd rfl (by first | exact Or.inl rfl | exact Or.inr rfl) (d_addA hK (d_var (pv 6)) (d_lst (da_cons (d_call (ok__law_divided t) hK (room.mono (by decide)) rfl t.m__law_divided t.F__law_divided.kp (b__law_divided t) (da_cons (d_var (pv 1)) (da_cons (d_var (pv 2)) (da_cons (d_var (pv 5)) da_nil)))) (da_cons (d_if (dt_tru (d_var (pv 5))) (d_callKX (ok_conjugate t) takes_none5 (wok_none hF) hK (room.mono (by decide)) rfl t.m_conjugate t.F_conjugate.kp (kb_conjugate_number t) (dk_cons (d_var (pv 1)) dk_nil)) (d_callX (ok_conjugate t) takes_none5 (wok_none hF) hK (room.mono (by decide)) rfl t.m_conjugate t.F_conjugate.kp (b_conjugate t) (da_cons (d_var (pv 1)) da_nil))) da_nil)))))
    (ds_one (ds_ret (d_and (d_call (ok__law_same t) hK (room.mono (by decide)) rfl t.m__law_same t.F__law_same.kp (b__law_same t) (da_cons (d_var (pv 6)) (da_cons (d_var (pv 4)) da_nil))) (d_one (d_call (ok__law_same t) hK (room.mono (by decide)) rfl t.m__law_same t.F__law_same.kp (b__law_same t) (da_cons (d_lcT hK rfl sc.nd (d_tup (da_cons (d_var (pv 1)) (da_cons (d_var (pv 2)) (da_cons (d_ix hK (d_var (pv 6)) d_int (fun _ _ => rfl)) (da_cons (d_ix hK (d_var (pv 6)) d_int (fun _ _ => rfl)) da_nil))))) (blkOk_by (own := [("_law_it", 7)]) (N := ["_law_deck_here", "_law_p", "_law_q", "_law_zero", "_law_due", "_law_is_named", "_law_told", "_law_it"]) (sc := defScope s__law_are_right) (by decide +kernel)) rfl (fun _ _ _ _ _ => pg_name (i := 7) sc.nd rfl (Or.inl rfl)) (fun _ _ _ _ _ => dts_nil) (fun _ _ _ _ _ => (d_call (ok_is_golden t) hK (room.mono (by decide)) rfl t.m_is_golden t.F_is_golden.kp (b_is_golden t) (da_cons (d_var (pv 7)) da_nil)))) (da_cons (d_mulA (d_lst (da_cons d_bl da_nil)) d_int) da_nil)))))))))))))
def T__law_is_chain_right : TDS := (dSeq (dAsg (dCall 2 tf__law_golden (dCons (dVar 0) (dCons (dC (.int 1)) dNil))) (dgName 1))
    (dSeq (dPar3 2 3 4 (dCons (dCall 3 tf__law_least (dCons (dBin gIx (dVar 1) (dC (.int 0))) (dCons (dBin gIx (dVar 1) (dC (.int 1))) (dCons (dBin gIx (dVar 1) (dC (.int 2))) dNil)))) (dCons (dVar 1) (dCons (dCall 3 tf__law_least (dCons (dBin gIx (dVar 1) (dC (.int 0))) (dCons (dBin gIx (dVar 1) (dC (.int 1))) (dCons (dBin gIx (dVar 1) (dC (.int 2))) dNil)))) dNil))))
    (dSeq (dForR (dCons (dC (.int 7)) dNil) (dgName 5)
    (dSeq (dPar 6 7 (dCons (dCall 2 tf_draw (dCons (dVar 0) (dCons (dC (.int 6)) dNil))) (dCons (dCall 2 tf__law_golden (dCons (dVar 0) (dCons (dC (.int 1)) dNil))) dNil)))
    (dSeq (dPar 8 9 (dCons (dVar 1) (dCons (dVar 2) dNil)))
    (dSeq (dIfS (dTest (dBin gEq (dVar 6) (dC (.int 0))))
    (dPar 1 2 (dCons (dCallX 2 tf_plus (dCons (dVar 1) (dCons (dVar 7) dNil))) (dCons (dCall 2 tf__law_plus (dCons (dVar 2) (dCons (dVar 7) dNil))) dNil)))
    (dIfS (dTest (dBin gEq (dVar 6) (dC (.int 1))))
    (dPar 1 2 (dCons (dCallX 2 tf_minus (dCons (dVar 7) (dCons (dVar 1) dNil))) (dCons (dCall 2 tf__law_plus (dCons (dVar 7) (dCons (dCall 1 tf__law_opposite (dCons (dVar 2) dNil)) dNil))) dNil)))
    (dIfS (dTest (dBin gEq (dVar 6) (dC (.int 2))))
    (dPar 1 2 (dCons (dCallX 2 tf_times (dCons (dVar 1) (dCons (dVar 7) dNil))) (dCons (dCall 2 tf__law_times (dCons (dVar 2) (dCons (dVar 7) dNil))) dNil)))
    (dIfS (dtAnd (dTest (dBin gEq (dVar 6) (dC (.int 3)))) (dtOr (dTest (dBin gNe (dBin gIx (dVar 7) (dC (.int 0))) (dC (.int 0)))) (dTest (dBin gNe (dBin gIx (dVar 7) (dC (.int 1))) (dC (.int 0))))))
    (dPar 1 2 (dCons (dCallX 2 tf_quotient (dCons (dVar 1) (dCons (dVar 7) dNil))) (dCons (dCall 2 tf__law_quotient (dCons (dVar 2) (dCons (dVar 7) dNil))) dNil)))
    (dIfS (dTest (dBin gEq (dVar 6) (dC (.int 4))))
    (dPar 1 2 (dCons (dCallX 2 tf_plus (dCons (dCallX 1 tf_conjugate (dCons (dVar 1) dNil)) (dCons (dVar 3) dNil))) (dCons (dCall 2 tf__law_plus (dCons (dCall 1 tf__law_conjugate (dCons (dVar 2) dNil)) (dCons (dVar 4) dNil))) dNil)))
    (dPar 1 2 (dCons (dCallX 2 tf_times (dCons (dVar 3) (dCons (dVar 1) dNil))) (dCons (dCall 2 tf__law_times (dCons (dVar 4) (dCons (dVar 2) dNil))) dNil))))))))
    (dSeq (dPar 3 4 (dCons (dVar 8) (dCons (dVar 9) dNil)))
    (dIfS (dtNot (dTest (dCall 2 tf__law_same (dCons (dVar 1) (dCons (dVar 2) dNil)))))
    (dRet (dC (.bl false)))
    dNext))))))
    (dRet (dC (.bl true))))))
def tf__law_is_chain_right : TF := fun _ ds Q => tfOf 10 T__law_is_chain_right (fun _ => False) ds Q
theorem ok__law_is_chain_right (t : Tx K mg) : FnG P w K mg base CX0 5 t.a__law_is_chain_right t.d__law_is_chain_right ["_law_deck_here"] (spD K 1 tf__law_is_chain_right) := by
  have sc := sc__law_is_chain_right
  exact fng_data (N := ["_law_deck_here", "_law_told", "_law_due", "_law_ahead", "_law_before", "_law_turn", "_law_way", "_law_p", "_law_kept", "_law_last"]) (T := T__law_is_chain_right) t.F__law_is_chain_right sc fun cdv A outer s H E F hK hF room =>
    (ds_cons (ds_set (i := 1) sc.nd rfl (by first | exact Or.inl rfl | exact Or.inr rfl) (d_call (ok__law_golden t) hK (room.mono (by decide)) rfl t.m__law_golden t.F__law_golden.kp (b__law_golden t) (da_cons (d_var (pv 0)) (da_cons d_int da_nil))))
    (ds_cons (ds_par3 (i := 2) (j := 3) (l := 4) rfl sc.nd rfl rfl rfl (by decide) (by decide) (by decide) rfl rfl rfl (da_cons (d_call (ok__law_least t) hK (room.mono (by decide)) rfl t.m__law_least t.F__law_least.kp (b__law_least t) (da_cons (d_ix hK (d_var (pv 1)) d_int (fun _ _ => rfl)) (da_cons (d_ix hK (d_var (pv 1)) d_int (fun _ _ => rfl)) (da_cons (d_ix hK (d_var (pv 1)) d_int (fun _ _ => rfl)) da_nil)))) (da_cons (d_var (pv 1)) (da_cons (d_call (ok__law_least t) hK (room.mono (by decide)) rfl t.m__law_least t.F__law_least.kp (b__law_least t) (da_cons (d_ix hK (d_var (pv 1)) d_int (fun _ _ => rfl)) (da_cons (d_ix hK (d_var (pv 1)) d_int (fun _ _ => rfl)) (da_cons (d_ix hK (d_var (pv 1)) d_int (fun _ _ => rfl)) da_nil)))) da_nil))))
    (ds_cons (ds_forR1 PassesOwn.never rfl rfl t.n_range (da_cons d_int da_nil) (dg_name (pg_name (i := 5) sc.nd rfl (by first | exact Or.inl rfl | exact Or.inr rfl)))
    (ds_cons (ds_par (i := 6) (j := 7) rfl sc.nd rfl rfl (by decide) rfl rfl (da_cons (d_call (ok__law_draw t) hK (room.mono (by decide)) rfl t.m__law_draw t.F__law_draw.kp (b__law_draw t) (da_cons (d_var (pv 0)) (da_cons d_int da_nil))) (da_cons (d_call (ok__law_golden t) hK (room.mono (by decide)) rfl t.m__law_golden t.F__law_golden.kp (b__law_golden t) (da_cons (d_var (pv 0)) (da_cons d_int da_nil))) da_nil)))
    (ds_cons (ds_par (i := 8) (j := 9) rfl sc.nd rfl rfl (by decide) rfl rfl (da_cons (d_var (pv 1)) (da_cons (d_var (pv 2)) da_nil)))
    (ds_cons (ds_if (dt_eq hK room.r.units (d_var (pv 6)) d_int)
    (ds_one (ds_par (i := 1) (j := 2) rfl sc.nd rfl rfl (by decide) rfl rfl (da_cons (d_callX (ok_plus t) takes_none5 (wok_none hF) hK (room.mono (by decide)) rfl t.m_plus t.F_plus.kp (b_plus t) (da_cons (d_var (pv 1)) (da_cons (d_var (pv 7)) da_nil))) (da_cons (d_call (ok__law_plus t) hK (room.mono (by decide)) rfl t.m__law_plus t.F__law_plus.kp (b__law_plus t) (da_cons (d_var (pv 2)) (da_cons (d_var (pv 7)) da_nil))) da_nil))))
    (ds_one (ds_if (dt_eq hK room.r.units (d_var (pv 6)) d_int)
    (ds_one (ds_par (i := 1) (j := 2) rfl sc.nd rfl rfl (by decide) rfl rfl (da_cons (d_callX (ok_minus t) takes_none5 (wok_none hF) hK (room.mono (by decide)) rfl t.m_minus t.F_minus.kp (b_minus t) (da_cons (d_var (pv 7)) (da_cons (d_var (pv 1)) da_nil))) (da_cons (d_call (ok__law_plus t) hK (room.mono (by decide)) rfl t.m__law_plus t.F__law_plus.kp (b__law_plus t) (da_cons (d_var (pv 7)) (da_cons (d_call (ok__law_opposite t) hK (room.mono (by decide)) rfl t.m__law_opposite t.F__law_opposite.kp (b__law_opposite t) (da_cons (d_var (pv 2)) da_nil)) da_nil))) da_nil))))
    (ds_one (ds_if (dt_eq hK room.r.units (d_var (pv 6)) d_int)
    (ds_one (ds_par (i := 1) (j := 2) rfl sc.nd rfl rfl (by decide) rfl rfl (da_cons (d_callX (ok_times t) takes_none5 (wok_none hF) hK (room.mono (by decide)) rfl t.m_times t.F_times.kp (b_times t) (da_cons (d_var (pv 1)) (da_cons (d_var (pv 7)) da_nil))) (da_cons (d_call (ok__law_times t) hK (room.mono (by decide)) rfl t.m__law_times t.F__law_times.kp (b__law_times t) (da_cons (d_var (pv 2)) (da_cons (d_var (pv 7)) da_nil))) da_nil))))
    (ds_one (ds_if (PW.pt (dw_and (dt_eq hK room.r.units (d_var (pv 6)) d_int) (dw_and1 (PW.pt (dw_or (dt_ne hK room.r.units (d_ix hK (d_var (pv 7)) d_int (fun _ _ => rfl)) d_int) (dw_or1 (dt_ne hK room.r.units (d_ix hK (d_var (pv 7)) d_int (fun _ _ => rfl)) d_int)))))))
    (ds_one (ds_par (i := 1) (j := 2) rfl sc.nd rfl rfl (by decide) rfl rfl (da_cons (d_callX (ok_quotient t) takes_none5 (wok_none hF) hK (room.mono (by decide)) rfl t.m_quotient t.F_quotient.kp (b_quotient t) (da_cons (d_var (pv 1)) (da_cons (d_var (pv 7)) da_nil))) (da_cons (d_call (ok__law_quotient t) hK (room.mono (by decide)) rfl t.m__law_quotient t.F__law_quotient.kp (b__law_quotient t) (da_cons (d_var (pv 2)) (da_cons (d_var (pv 7)) da_nil))) da_nil))))
    (ds_one (ds_if (dt_eq hK room.r.units (d_var (pv 6)) d_int)
    (ds_one (ds_par (i := 1) (j := 2) rfl sc.nd rfl rfl (by decide) rfl rfl (da_cons (d_callX (ok_plus t) takes_none5 (wok_none hF) hK (room.mono (by decide)) rfl t.m_plus t.F_plus.kp (b_plus t) (da_cons (d_callX (ok_conjugate t) takes_none5 (wok_none hF) hK (room.mono (by decide)) rfl t.m_conjugate t.F_conjugate.kp (b_conjugate t) (da_cons (d_var (pv 1)) da_nil)) (da_cons (d_var (pv 3)) da_nil))) (da_cons (d_call (ok__law_plus t) hK (room.mono (by decide)) rfl t.m__law_plus t.F__law_plus.kp (b__law_plus t) (da_cons (d_call (ok__law_conjugate t) hK (room.mono (by decide)) rfl t.m__law_conjugate t.F__law_conjugate.kp (b__law_conjugate t) (da_cons (d_var (pv 2)) da_nil)) (da_cons (d_var (pv 4)) da_nil))) da_nil))))
    (ds_one (ds_par (i := 1) (j := 2) rfl sc.nd rfl rfl (by decide) rfl rfl (da_cons (d_callX (ok_times t) takes_none5 (wok_none hF) hK (room.mono (by decide)) rfl t.m_times t.F_times.kp (b_times t) (da_cons (d_var (pv 3)) (da_cons (d_var (pv 1)) da_nil))) (da_cons (d_call (ok__law_times t) hK (room.mono (by decide)) rfl t.m__law_times t.F__law_times.kp (b__law_times t) (da_cons (d_var (pv 4)) (da_cons (d_var (pv 2)) da_nil))) da_nil)))))))))))))
    (ds_cons (ds_par (i := 3) (j := 4) rfl sc.nd rfl rfl (by decide) rfl rfl (da_cons (d_var (pv 8)) (da_cons (d_var (pv 9)) da_nil)))
    (ds_one (ds_if (dt_not (dt_val (d_call (ok__law_same t) hK (room.mono (by decide)) rfl t.m__law_same t.F__law_same.kp (b__law_same t) (da_cons (d_var (pv 1)) (da_cons (d_var (pv 2)) da_nil)))))
    (ds_one (ds_ret d_bl))
    ds_nil)))))))
    (ds_one (ds_ret d_bl)))))
def T_law : TDS := (dSeq (dForR (dCons (dC (.int 5)) dNil) (dgName 2)
    (dSeq (dAsg (dCall 2 tf__law_golden (dCons (dVar 1) (dCons (dC (.int 5)) dNil))) (dgName 3))
    (dIfS (dtNot (dTest (dCall 3 tf__law_are_right (dCons (dVar 1) (dCons (dVar 3) (dCons (dCall 3 tf__law_other (dCons (dVar 1) (dCons (dVar 3) (dCons (dC (.int 5)) dNil)))) dNil))))))
    (dRet (dC (.bl false)))
    dNext)))
    (dSeq (dIfS (dTest (dBin gEq (dCall 2 tf_draw (dCons (dVar 1) (dCons (dC (.int 8)) dNil))) (dC (.int 0))))
    (dSeq (dAsg (dCall 2 tf__law_golden (dCons (dVar 1) (dCons (dC (.int 166)) dNil))) (dgName 3))
    (dIfS (dtNot (dTest (dCall 3 tf__law_are_right (dCons (dVar 1) (dCons (dVar 3) (dCons (dCall 3 tf__law_other (dCons (dVar 1) (dCons (dVar 3) (dCons (dC (.int 166)) dNil)))) dNil))))))
    (dRet (dC (.bl false)))
    dNext))
    dNext)
    (dSeq (dPar3 3 4 5 (dCons (dCall 2 tf__law_golden (dCons (dVar 1) (dCons (dC (.int 2)) dNil))) (dCons (dCall 2 tf__law_golden (dCons (dVar 1) (dCons (dC (.int 2)) dNil))) (dCons (dCall 2 tf__law_golden (dCons (dVar 1) (dCons (dC (.int 2)) dNil))) dNil))))
    (dSeq (dIfS (dtNot (dTest (dCall 2 tf__law_same (dCons (dCallX 1 tf_conjugate (dCons (dCallX 2 tf_plus (dCons (dVar 3) (dCons (dVar 4) dNil))) dNil)) (dCons (dCallX 2 tf_plus (dCons (dCallX 1 tf_conjugate (dCons (dVar 3) dNil)) (dCons (dCallX 1 tf_conjugate (dCons (dVar 4) dNil)) dNil))) dNil)))))
    (dRet (dC (.bl false)))
    dNext)
    (dSeq (dIfS (dtNot (dTest (dCall 2 tf__law_same (dCons (dCallX 1 tf_conjugate (dCons (dCallX 2 tf_times (dCons (dVar 3) (dCons (dVar 4) dNil))) dNil)) (dCons (dCallX 2 tf_times (dCons (dCallX 1 tf_conjugate (dCons (dVar 3) dNil)) (dCons (dCallX 1 tf_conjugate (dCons (dVar 4) dNil)) dNil))) dNil)))))
    (dRet (dC (.bl false)))
    dNext)
    (dSeq (dIfS (dtNot (dTest (dCall 2 tf__law_same (dCons (dCallX 2 tf_times (dCons (dVar 3) (dCons (dCallX 2 tf_plus (dCons (dVar 4) (dCons (dVar 5) dNil))) dNil))) (dCons (dCall 2 tf__law_plus (dCons (dCall 2 tf__law_times (dCons (dVar 3) (dCons (dVar 4) dNil))) (dCons (dCall 2 tf__law_times (dCons (dVar 3) (dCons (dVar 5) dNil))) dNil))) dNil)))))
    (dRet (dC (.bl false)))
    dNext)
    (dRet (dCall 1 tf__law_is_chain_right (dCons (dVar 1) dNil)))))))))
theorem ok_law (t : Tx K mg) : FnG P w K mg base CX0 7 t.a_law t.d_law ["_law_script"] (spLaw K 4 T_law) := by
  have sc := sc_law
  refine fng_of (N := ["_law_script", "_law_deck_here", "_law_turn", "_law_p", "_law_q", "_law_far"]) t.F_law sc ?_ ?_
  · rintro vs H Q E ⟨a, ns, rfl, _⟩
    rfl
  rintro cdv A outer s H vs Q E room ⟨a, ns, rfl, hS, hlen, hTb, hT, hQ⟩
  have rest : ∀ F : FP, (F.K = K ∧ F.ex = fun _ _ => False) → PSs (cxOf CX0 P w K mg base ["_law_script", "_law_deck_here", "_law_turn", "_law_p", "_law_q", "_law_far"] "law" (defScope s_law) t.a_law cdv A outer s H E).nox (defBody s_law).tail (sD F T_law) := fun F ⟨hK, hF⟩ =>
    (ds_cons (ds_forR1 PassesOwn.never rfl rfl t.n_range (da_cons d_int da_nil) (dg_name (pg_name (i := 2) sc.nd rfl (by first | exact Or.inl rfl | exact Or.inr rfl)))
    (ds_cons (ds_set (i := 3) sc.nd rfl (by first | exact Or.inl rfl | exact Or.inr rfl) (d_call (ok__law_golden t) hK (room.mono (by decide)) rfl t.m__law_golden t.F__law_golden.kp (b__law_golden t) (da_cons (d_var (pv 1)) (da_cons d_int da_nil))))
    (ds_one (ds_if (dt_not (dt_val (d_call (ok__law_are_right t) hK (room.mono (by decide)) rfl t.m__law_are_right t.F__law_are_right.kp (b__law_are_right t) (da_cons (d_var (pv 1)) (da_cons (d_var (pv 3)) (da_cons (d_call (ok__law_other t) hK (room.mono (by decide)) rfl t.m__law_other t.F__law_other.kp (b__law_other t) (da_cons (d_var (pv 1)) (da_cons (d_var (pv 3)) (da_cons d_int da_nil)))) da_nil))))))
    (ds_one (ds_ret d_bl))
    ds_nil))))
    (ds_cons (ds_if (dt_eq hK room.r.units (d_call (ok__law_draw t) hK (room.mono (by decide)) rfl t.m__law_draw t.F__law_draw.kp (b__law_draw t) (da_cons (d_var (pv 1)) (da_cons d_int da_nil))) d_int)
    (ds_cons (ds_set (i := 3) sc.nd rfl (by first | exact Or.inl rfl | exact Or.inr rfl) (d_call (ok__law_golden t) hK (room.mono (by decide)) rfl t.m__law_golden t.F__law_golden.kp (b__law_golden t) (da_cons (d_var (pv 1)) (da_cons d_int da_nil))))
    (ds_one (ds_if (dt_not (dt_val (d_call (ok__law_are_right t) hK (room.mono (by decide)) rfl t.m__law_are_right t.F__law_are_right.kp (b__law_are_right t) (da_cons (d_var (pv 1)) (da_cons (d_var (pv 3)) (da_cons (d_call (ok__law_other t) hK (room.mono (by decide)) rfl t.m__law_other t.F__law_other.kp (b__law_other t) (da_cons (d_var (pv 1)) (da_cons (d_var (pv 3)) (da_cons d_int da_nil)))) da_nil))))))
    (ds_one (ds_ret d_bl))
    ds_nil)))
    ds_nil)
    (ds_cons (ds_par3 (i := 3) (j := 4) (l := 5) rfl sc.nd rfl rfl rfl (by decide) (by decide) (by decide) rfl rfl rfl (da_cons (d_call (ok__law_golden t) hK (room.mono (by decide)) rfl t.m__law_golden t.F__law_golden.kp (b__law_golden t) (da_cons (d_var (pv 1)) (da_cons d_int da_nil))) (da_cons (d_call (ok__law_golden t) hK (room.mono (by decide)) rfl t.m__law_golden t.F__law_golden.kp (b__law_golden t) (da_cons (d_var (pv 1)) (da_cons d_int da_nil))) (da_cons (d_call (ok__law_golden t) hK (room.mono (by decide)) rfl t.m__law_golden t.F__law_golden.kp (b__law_golden t) (da_cons (d_var (pv 1)) (da_cons d_int da_nil))) da_nil))))
    (ds_cons (ds_if (dt_not (dt_val (d_call (ok__law_same t) hK (room.mono (by decide)) rfl t.m__law_same t.F__law_same.kp (b__law_same t) (da_cons (d_callX (ok_conjugate t) takes_none5 (wok_none hF) hK (room.mono (by decide)) rfl t.m_conjugate t.F_conjugate.kp (b_conjugate t) (da_cons (d_callX (ok_plus t) takes_none5 (wok_none hF) hK (room.mono (by decide)) rfl t.m_plus t.F_plus.kp (b_plus t) (da_cons (d_var (pv 3)) (da_cons (d_var (pv 4)) da_nil))) da_nil)) (da_cons (d_callX (ok_plus t) takes_none5 (wok_none hF) hK (room.mono (by decide)) rfl t.m_plus t.F_plus.kp (b_plus t) (da_cons (d_callX (ok_conjugate t) takes_none5 (wok_none hF) hK (room.mono (by decide)) rfl t.m_conjugate t.F_conjugate.kp (b_conjugate t) (da_cons (d_var (pv 3)) da_nil)) (da_cons (d_callX (ok_conjugate t) takes_none5 (wok_none hF) hK (room.mono (by decide)) rfl t.m_conjugate t.F_conjugate.kp (b_conjugate t) (da_cons (d_var (pv 4)) da_nil)) da_nil))) da_nil)))))
    (ds_one (ds_ret d_bl))
    ds_nil)
    (ds_cons (ds_if (dt_not (dt_val (d_call (ok__law_same t) hK (room.mono (by decide)) rfl t.m__law_same t.F__law_same.kp (b__law_same t) (da_cons (d_callX (ok_conjugate t) takes_none5 (wok_none hF) hK (room.mono (by decide)) rfl t.m_conjugate t.F_conjugate.kp (b_conjugate t) (da_cons (d_callX (ok_times t) takes_none5 (wok_none hF) hK (room.mono (by decide)) rfl t.m_times t.F_times.kp (b_times t) (da_cons (d_var (pv 3)) (da_cons (d_var (pv 4)) da_nil))) da_nil)) (da_cons (d_callX (ok_times t) takes_none5 (wok_none hF) hK (room.mono (by decide)) rfl t.m_times t.F_times.kp (b_times t) (da_cons (d_callX (ok_conjugate t) takes_none5 (wok_none hF) hK (room.mono (by decide)) rfl t.m_conjugate t.F_conjugate.kp (b_conjugate t) (da_cons (d_var (pv 3)) da_nil)) (da_cons (d_callX (ok_conjugate t) takes_none5 (wok_none hF) hK (room.mono (by decide)) rfl t.m_conjugate t.F_conjugate.kp (b_conjugate t) (da_cons (d_var (pv 4)) da_nil)) da_nil))) da_nil)))))
    (ds_one (ds_ret d_bl))
    ds_nil)
    (ds_cons (ds_if (dt_not (dt_val (d_call (ok__law_same t) hK (room.mono (by decide)) rfl t.m__law_same t.F__law_same.kp (b__law_same t) (da_cons (d_callX (ok_times t) takes_none5 (wok_none hF) hK (room.mono (by decide)) rfl t.m_times t.F_times.kp (b_times t) (da_cons (d_var (pv 3)) (da_cons (d_callX (ok_plus t) takes_none5 (wok_none hF) hK (room.mono (by decide)) rfl t.m_plus t.F_plus.kp (b_plus t) (da_cons (d_var (pv 4)) (da_cons (d_var (pv 5)) da_nil))) da_nil))) (da_cons (d_call (ok__law_plus t) hK (room.mono (by decide)) rfl t.m__law_plus t.F__law_plus.kp (b__law_plus t) (da_cons (d_call (ok__law_times t) hK (room.mono (by decide)) rfl t.m__law_times t.F__law_times.kp (b__law_times t) (da_cons (d_var (pv 3)) (da_cons (d_var (pv 4)) da_nil))) (da_cons (d_call (ok__law_times t) hK (room.mono (by decide)) rfl t.m__law_times t.F__law_times.kp (b__law_times t) (da_cons (d_var (pv 3)) (da_cons (d_var (pv 5)) da_nil))) da_nil))) da_nil)))))
    (ds_one (ds_ret d_bl))
    ds_nil)
    (ds_one (ds_ret (d_call (ok__law_is_chain_right t) hK (room.mono (by decide)) rfl t.m__law_is_chain_right t.F__law_is_chain_right.kp (b__law_is_chain_right t) (da_cons (d_var (pv 1)) da_nil))))))))))
  refine ⟨_, PSs.nox (pss_cons (ps_set (i := 1) sc.nd rfl (by first | exact Or.inl rfl | exact Or.inr rfl) (pe_callG (ok__law_deck t) (room.mono (by decide)) rfl t.m__law_deck t.F__law_deck.kp (b__law_deck t) .nil pass0 (pa_cons (pv 0) pa_nil))) (PSs.exF rest)), ?_⟩
  refine ⟨_, rfl, a, ns, rfl, hS, hlen, fun H' d l m xs hs h1 h2 h3 h4 h5 => ?_⟩
  exact law_rest h3 h4 h5 (LamX.Tabs.ext hTb hs) hT hQ
end
end K06
set_option maxHeartbeats 1000000
set_option maxRecDepth 100000
namespace K06
open PySem PySem.Spec L2 DL
variable {ξ : XT} {Q : D → Prop}
theorem e_ipi {i : Int} (h : Q (.bl true)) : tf_is_plain_integer ξ [.int i] Q := ⟨rfl, rfl, h⟩
abbrev T3 (a b c : Int) : D := .tup [.int a, .int b, .int c]
theorem e_isg {a b d : Int} (hd : 1 ≤ d) (h : Q (.bl true)) : tf_is_golden ξ [T3 a b d] Q :=
  ⟨rfl, rfl, rfl, e_ipi ⟨rfl, e_ipi ⟨rfl, e_ipi (show Q (.bl (decide (1 ≤ d))) from by rw [decide_eq_true hd]; exact h)⟩⟩⟩
theorem e_need {a b d : Int} (hd : 1 ≤ d) (h : Q .non) : tf_need_golden ξ [T3 a b d] Q := ⟨rfl, e_isg hd h⟩
/-! ### lowest terms -/
structure Nf (x y z : Int) : Prop where
  p : 1 ≤ z
  g : (x.natAbs.gcd y.natAbs).gcd z.natAbs = 1
def Rl (A B C x y z : Int) : Prop := x * C = A * z ∧ y * C = B * z
structure Gs (n : Nat) (a b d : Int) : Prop where
  ba : Bd n a
  bb : Bd n b
  bd : Bd n d
  p : 1 ≤ d
theorem Gs.mono {n m : Nat} {a b d : Int} (g : Gs n a b d) (l : n ≤ m) : Gs m a b d := ⟨g.ba.mono l, g.bb.mono l, g.bd.mono l, g.p⟩
theorem core3 (a b d : Int) (hd : d ≠ 0) : ∃ x y z : Int, ∃ G : Int, G = (((Nat.gcd a.natAbs b.natAbs).gcd d.natAbs : Nat) : Int) ∧ 0 < G ∧ a = G * x ∧ b = G * y ∧ d = G * z ∧ (x.natAbs.gcd y.natAbs).gcd z.natAbs = 1 := by
  generalize hg : (Nat.gcd a.natAbs b.natAbs).gcd d.natAbs = g
  have da : g ∣ a.natAbs := hg ▸ Nat.dvd_trans (Nat.gcd_dvd_left _ _) (Nat.gcd_dvd_left _ _)
  have db : g ∣ b.natAbs := hg ▸ Nat.dvd_trans (Nat.gcd_dvd_left _ _) (Nat.gcd_dvd_right _ _)
  have dd : g ∣ d.natAbs := hg ▸ Nat.gcd_dvd_right _ _
  have gp : 0 < g := by
    refine Nat.pos_of_ne_zero fun e => ?_
    rw [e] at dd
    have := Nat.eq_zero_of_zero_dvd dd
    omega
  obtain ⟨x, hx⟩ := Int.ofNat_dvd_left.mpr da
  obtain ⟨y, hy⟩ := Int.ofNat_dvd_left.mpr db
  obtain ⟨z, hz⟩ := Int.ofNat_dvd_left.mpr dd
  refine ⟨x, y, z, (g : Int), rfl, by omega, hx, hy, hz, ?_⟩
  have ea : a.natAbs = g * x.natAbs := by rw [hx, Int.natAbs_mul]; rfl
  have eb : b.natAbs = g * y.natAbs := by rw [hy, Int.natAbs_mul]; rfl
  have ed : d.natAbs = g * z.natAbs := by rw [hz, Int.natAbs_mul]; rfl
  rw [ea, eb, ed, Nat.gcd_mul_left, Nat.gcd_mul_left] at hg
  exact Nat.eq_of_mul_eq_mul_left gp (by rw [hg, Nat.mul_one])
theorem Nf.le {x y z x' y' z' : Int} (h : Nf x y z) (p : 1 ≤ z') (r : Rl x y z x' y' z') : z ∣ z' := by
  obtain ⟨e1, e2⟩ := r
  have d1 : z.natAbs ∣ x.natAbs * z'.natAbs := by
    rw [← Int.natAbs_mul, ← e1, Int.natAbs_mul]
    exact Nat.dvd_mul_left _ _
  have d2 : z.natAbs ∣ y.natAbs * z'.natAbs := by
    rw [← Int.natAbs_mul, ← e2, Int.natAbs_mul]
    exact Nat.dvd_mul_left _ _
  have d3 : z.natAbs ∣ z.natAbs * z'.natAbs := Nat.dvd_mul_right _ _
  have d4 := Nat.dvd_gcd (Nat.dvd_gcd d1 d2) d3
  rw [Nat.gcd_mul_right, Nat.gcd_mul_right, h.g, Nat.one_mul] at d4
  exact Int.natAbs_dvd_natAbs.mp d4
theorem Rl.symm {x y z x' y' z' : Int} (r : Rl x y z x' y' z') : Rl x' y' z' x y z := ⟨r.1.symm, r.2.symm⟩
theorem nf_eq {x y z x' y' z' : Int} (h : Nf x y z) (h' : Nf x' y' z') (r : Rl x y z x' y' z') : x = x' ∧ y = y' ∧ z = z' := by
  have d1 := h.le h'.p r
  have d2 := h'.le h.p r.symm
  have e : z = z' := Int.le_antisymm (Int.le_of_dvd (by have := h'.p; omega) d1) (Int.le_of_dvd (by have := h.p; omega) d2)
  subst e
  have nz : z ≠ 0 := by have := h.p; omega
  exact ⟨(Int.eq_of_mul_eq_mul_right nz r.1).symm, (Int.eq_of_mul_eq_mul_right nz r.2).symm, rfl⟩
theorem Rl.trans {a b d x y z u v w : Int} (hz : z ≠ 0) (r : Rl a b d x y z) (q : Rl x y z u v w) : Rl a b d u v w := by
  obtain ⟨r1, r2⟩ := r
  obtain ⟨q1, q2⟩ := q
  constructor
  · refine Int.eq_of_mul_eq_mul_right hz ?_
    grind
  · refine Int.eq_of_mul_eq_mul_right hz ?_
    grind
theorem Rl.refl {a b d : Int} : Rl a b d a b d := ⟨rfl, rfl⟩
theorem bd_part {n : Nat} {a G x : Int} (h : Bd n a) (e : a = G * x) (p : 0 < G) : Bd n x := by
  refine h.of_le ?_
  rw [e, Int.natAbs_mul]
  exact Nat.le_mul_of_pos_left _ (by omega)
theorem log_bd {n : Nat} {a : Int} (h : Bd n a) (l : n ≤ 12999) : a.natAbs.log2 < 13000 := PySem.Flt.log2_lt_of (by decide) (h.mono (m := 13000) (by omega))
theorem e_lowest {n : Nat} {a b d : Int} (ha : Bd n a) (hb : Bd n b) (hd : Bd n d) (nz : d ≠ 0) (l : n ≤ 12000) (h : ∀ x y z, Nf x y z → Rl a b d x y z → Gs n x y z → Q (T3 x y z)) : tf__lowest ξ [.int a, .int b, .int d] Q := by
  obtain ⟨x, y, z, G, eG, pG, ea, eb, ed, cop⟩ := core3 a b d nz
  have la := log_bd ha (by omega)
  have lb := log_bd hb (by omega)
  have ld := log_bd hd (by omega)
  have bx := bd_part ha ea pG
  have by_ := bd_part hb eb pG
  have bz := bd_part hd ed pG
  have zn : z ≠ 0 := fun e => nz (by rw [ed, e, Int.mul_zero])
  refine ifd (fun hneg => ?_) (fun hpos => ?_)
  · rw [← eG]
    have zneg : z < 0 := by
      rcases Int.lt_or_lt_of_ne zn with q | q
      · exact q
      · have := Int.mul_pos pG q
        omega
    have f1 : a.fdiv (-G) = -x := by rw [show a = (-G) * (-x) by rw [Int.neg_mul_neg]; exact ea]; exact Int.mul_fdiv_cancel_left _ (by omega)
    have f2 : b.fdiv (-G) = -y := by rw [show b = (-G) * (-y) by rw [Int.neg_mul_neg]; exact eb]; exact Int.mul_fdiv_cancel_left _ (by omega)
    have f3 : d.fdiv (-G) = -z := by rw [show d = (-G) * (-z) by rw [Int.neg_mul_neg]; exact ed]; exact Int.mul_fdiv_cancel_left _ (by omega)
    refine ⟨⟨by omega, la⟩, ⟨by omega, lb⟩, ⟨by omega, ld⟩, sz (n := 3) (by decide), ?_⟩
    show Q (T3 (a.fdiv (-G)) (b.fdiv (-G)) (d.fdiv (-G)))
    rw [f1, f2, f3]
    refine h _ _ _ ⟨by omega, by simpa using cop⟩ ⟨?_, ?_⟩ ⟨bx.neg, by_.neg, bz.neg, by omega⟩
    · rw [ea, ed]; grind
    · rw [eb, ed]; grind
  · rw [← eG]
    have zp : 0 < z := by
      rcases Int.lt_or_lt_of_ne zn with q | q
      · have := Int.mul_neg_of_pos_of_neg pG q
        omega
      · exact q
    have f1 : a.fdiv G = x := by rw [ea]; exact Int.mul_fdiv_cancel_left _ (by omega)
    have f2 : b.fdiv G = y := by rw [eb]; exact Int.mul_fdiv_cancel_left _ (by omega)
    have f3 : d.fdiv G = z := by rw [ed]; exact Int.mul_fdiv_cancel_left _ (by omega)
    refine ⟨⟨by omega, la⟩, ⟨by omega, lb⟩, ⟨by omega, ld⟩, sz (n := 3) (by decide), ?_⟩
    show Q (T3 (a.fdiv G) (b.fdiv G) (d.fdiv G))
    rw [f1, f2, f3]
    refine h _ _ _ ⟨by omega, cop⟩ ⟨?_, ?_⟩ ⟨bx, by_, bz, by omega⟩
    · rw [ea, ed]; grind
    · rw [eb, ed]; grind
end K06
set_option maxHeartbeats 1000000
set_option maxRecDepth 100000
namespace K06
open PySem PySem.Spec L2 DL
variable {ξ : XT} {Q : D → Prop}
theorem loop_gcd {η : XW} {De : DEnds} {x0 x1 : Slot} : ∀ (m near far : Nat), far ≤ m → De.nx [x0, x1, .d (.int ((near.gcd far : Nat) : Int)), .d (.int 0)] →
    whileN (dTest (dBin gNe (dVar 3) (dC (.int 0)))) (dPar 2 3 (dCons (dVar 3) (dCons (dBin gMod (dCB gInt (dCons (dVar 2) dNil)) (dVar 3)) dNil))) η De (m + 1) [x0, x1, .d (.int (near : Int)), .d (.int (far : Int))]
  | 0, near, far, hm, h => by
    have e : far = 0 := by omega
    subst e
    rw [Nat.gcd_zero_right] at h
    exact h
  | m + 1, near, far, hm, h => by
    refine ifdn (fun hz => ?_) (fun hz => ?_)
    · have fp : 0 < far := by omega
      refine ⟨by omega, ?_⟩
      have e : (near : Int) % (far : Int) = ((near % far : Nat) : Int) := rfl
      have lt : near % far < far := Nat.mod_lt _ fp
      refine loop_gcd m far (near % far) (by omega) ?_
      rw [Nat.gcd_comm far, ← Nat.gcd_rec, Nat.gcd_comm]
      exact h
    · have e : far = 0 := by omega
      subst e
      rw [Nat.gcd_zero_right] at h
      exact h
theorem abs_nat (a : Int) : (if a < 0 then -a else a) = ((a.natAbs : Nat) : Int) := by split <;> omega
theorem e_common {a b : Int} (h : ∀ g : Int, g = ((a.natAbs.gcd b.natAbs : Nat) : Int) → Q (.int g)) : tf__law_common ξ [.int a, .int b] Q := by
  show ∃ n, whileN _ _ _ _ n [_, _, .d (.int (if a < 0 then -a else a)), .d (.int (if b < 0 then -b else b))]
  rw [abs_nat, abs_nat]
  exact ⟨b.natAbs + 1, loop_gcd b.natAbs a.natAbs b.natAbs (Nat.le_refl _) (h _ rfl)⟩
theorem e_least {n : Nat} {a b d : Int} (ha : Bd n a) (hb : Bd n b) (hd : Bd n d) (pd : 1 ≤ d) (l : n ≤ 12000) (h : ∀ x y z, Nf x y z → Rl a b d x y z → Gs n x y z → Q (T3 x y z)) : tf__law_least ξ [.int a, .int b, .int d] Q := by
  obtain ⟨x, y, z, G, eG, pG, ea, eb, ed, cop⟩ := core3 a b d (by omega)
  refine ⟨rfl, e_common fun g1 e1 => ⟨rfl, e_common fun g2 e2 => ?_⟩⟩
  subst e1
  rw [Int.natAbs_natCast] at e2
  have e3 : g2 = G := e2.trans eG.symm
  subst e3
  have zp : 0 < z := by
    rcases Int.lt_trichotomy 0 z with q | q | q
    · exact q
    · rw [← q, Int.mul_zero] at ed; omega
    · have := Int.mul_neg_of_pos_of_neg pG q
      omega
  have f1 : a.fdiv g2 = x := by rw [ea]; exact Int.mul_fdiv_cancel_left _ (by omega)
  have f2 : b.fdiv g2 = y := by rw [eb]; exact Int.mul_fdiv_cancel_left _ (by omega)
  have f3 : d.fdiv g2 = z := by rw [ed]; exact Int.mul_fdiv_cancel_left _ (by omega)
  refine ⟨⟨by omega, log_bd ha (by omega)⟩, ⟨by omega, log_bd hb (by omega)⟩, ⟨by omega, log_bd hd (by omega)⟩, sz (n := 3) (by decide), ?_⟩
  show Q (T3 (a.fdiv g2) (b.fdiv g2) (d.fdiv g2))
  rw [f1, f2, f3]
  refine h _ _ _ ⟨by omega, cop⟩ ⟨?_, ?_⟩ ⟨bd_part ha ea pG, bd_part hb eb pG, bd_part hd ed pG, by omega⟩
  · rw [ea, ed]; grind
  · rw [eb, ed]; grind
/-! ### the five functions, and the law's own -/
section
variable {a b d c e f : Int} {n m : Nat}
theorem mulp {x y : Int} (h : 1 ≤ x) (k : 1 ≤ y) : 1 ≤ x * y := by
  have := Int.mul_pos (a := x) (b := y) (by omega) (by omega)
  omega
theorem Bd.m2 {x y : Int} (h : Bd n x) (k : Bd m y) : Bd (n + m) (x * y) := h.mul k
theorem bp {x y u v : Int} (h : Bd n x) (k : Bd m y) (h' : Bd n u) (k' : Bd m v) : Bd (n + m + 1) (x * y + u * v) := (h.mul k).add (h'.mul k')
theorem bm {x y u v : Int} (h : Bd n x) (k : Bd m y) (h' : Bd n u) (k' : Bd m v) : Bd (n + m + 1) (x * y - u * v) := (h.mul k).sub (h'.mul k')
theorem e_reduced (g : Gs n a b d) (l : n ≤ 12000) (h : ∀ x y z, Nf x y z → Rl a b d x y z → Gs n x y z → Q (T3 x y z)) : tf_reduced ξ [T3 a b d] Q :=
  ⟨rfl, e_need g.p ⟨rfl, rfl, e_lowest g.ba g.bb g.bd (by have := g.p; omega) l h⟩⟩
theorem e_plus (g : Gs n a b d) (k : Gs m c e f) (l : n + m + 1 ≤ 12000) (h : ∀ x y z, Nf x y z → Rl (a * f + c * d) (b * f + e * d) (d * f) x y z → Gs (n + m + 1) x y z → Q (T3 x y z)) : tf_plus ξ [T3 a b d, T3 c e f] Q := by
  refine ⟨rfl, e_need g.p ⟨rfl, e_need k.p ⟨rfl, rfl, g.ba.cmul k.bd (by omega), k.ba.cmul g.bd (by omega), g.bb.cmul k.bd (by omega), k.bb.cmul g.bd (by omega), g.bd.cmul k.bd (by omega), rfl, ?_⟩⟩⟩
  refine e_lowest ?_ ?_ ((g.bd.mul k.bd).mono (by omega)) (by have := mulp g.p k.p; omega) l h
  · exact (((g.ba.mul k.bd).mono (by omega)).add ((k.ba.mul g.bd).mono (by omega)) : Bd (n + m + 1) _)
  · exact (((g.bb.mul k.bd).mono (by omega)).add ((k.bb.mul g.bd).mono (by omega)) : Bd (n + m + 1) _)
theorem e_minus (g : Gs n a b d) (k : Gs m c e f) (l : n + m + 1 ≤ 12000) (h : ∀ x y z, Nf x y z → Rl (a * f - c * d) (b * f - e * d) (d * f) x y z → Gs (n + m + 1) x y z → Q (T3 x y z)) : tf_minus ξ [T3 a b d, T3 c e f] Q := by
  refine ⟨rfl, e_need g.p ⟨rfl, e_need k.p ⟨rfl, rfl, g.ba.cmul k.bd (by omega), k.ba.cmul g.bd (by omega), g.bb.cmul k.bd (by omega), k.bb.cmul g.bd (by omega), g.bd.cmul k.bd (by omega), rfl, ?_⟩⟩⟩
  refine e_lowest ?_ ?_ ((g.bd.mul k.bd).mono (by omega)) (by have := mulp g.p k.p; omega) l h
  · exact (((g.ba.mul k.bd).mono (by omega)).sub ((k.ba.mul g.bd).mono (by omega)) : Bd (n + m + 1) _)
  · exact (((g.bb.mul k.bd).mono (by omega)).sub ((k.bb.mul g.bd).mono (by omega)) : Bd (n + m + 1) _)
theorem e_times (g : Gs n a b d) (k : Gs m c e f) (l : n + m + 2 ≤ 12000) (h : ∀ x y z, Nf x y z → Rl (a * c + b * e) (a * e + b * c + b * e) (d * f) x y z → Gs (n + m + 2) x y z → Q (T3 x y z)) : tf_times ξ [T3 a b d, T3 c e f] Q := by
  refine ⟨rfl, e_need g.p ⟨rfl, e_need k.p ⟨rfl, rfl, g.ba.cmul k.ba (by omega), g.bb.cmul k.bb (by omega), g.ba.cmul k.bb (by omega), g.bb.cmul k.ba (by omega), g.bb.cmul k.bb (by omega), g.bd.cmul k.bd (by omega), rfl, ?_⟩⟩⟩
  refine e_lowest ?_ ?_ ((g.bd.mul k.bd).mono (by omega)) (by have := mulp g.p k.p; omega) l h
  · exact (bp g.ba k.ba g.bb k.bb).mono (by omega)
  · exact ((bp g.ba k.bb g.bb k.ba).add ((g.bb.mul k.bb).mono (by omega)) : Bd (n + m + 1 + 1) _)
theorem e_conj (g : Gs n a b d) (l : n + 1 ≤ 12000) (h : ∀ x y z, Nf x y z → Rl (a + b) (-b) d x y z → Gs (n + 1) x y z → Q (T3 x y z)) : tf_conjugate ξ [T3 a b d] Q :=
  ⟨rfl, e_need g.p ⟨rfl, rfl, e_lowest (g.ba.add g.bb) (g.bb.neg.mono (by omega)) (g.bd.mono (by omega)) (by have := g.p; omega) l h⟩⟩
theorem l_conj (g : Gs n a b d) (l : n + 1 ≤ 12000) (h : ∀ x y z, Nf x y z → Rl (a + b) (-b) d x y z → Gs (n + 1) x y z → Q (T3 x y z)) : tf__law_conjugate ξ [T3 a b d] Q :=
  ⟨rfl, e_least (g.ba.add g.bb) (g.bb.neg.mono (by omega)) (g.bd.mono (by omega)) g.p l h⟩
theorem l_opp (h : Q (T3 (-a) (-b) d)) : tf__law_opposite ξ [T3 a b d] Q := ⟨sz (n := 3) (by decide), h⟩
theorem l_plus (g : Gs n a b d) (k : Gs m c e f) (l : n + m + 1 ≤ 12000) (h : ∀ x y z, Nf x y z → Rl (a * f + c * d) (b * f + e * d) (d * f) x y z → Gs (n + m + 1) x y z → Q (T3 x y z)) : tf__law_plus ξ [T3 a b d, T3 c e f] Q := by
  refine ⟨g.ba.cmul k.bd (by omega), k.ba.cmul g.bd (by omega), g.bb.cmul k.bd (by omega), k.bb.cmul g.bd (by omega), g.bd.cmul k.bd (by omega), rfl, ?_⟩
  refine e_least ?_ ?_ ((g.bd.mul k.bd).mono (by omega)) (mulp g.p k.p) l h
  · exact (((g.ba.mul k.bd).mono (by omega)).add ((k.ba.mul g.bd).mono (by omega)) : Bd (n + m + 1) _)
  · exact (((g.bb.mul k.bd).mono (by omega)).add ((k.bb.mul g.bd).mono (by omega)) : Bd (n + m + 1) _)
theorem l_times (g : Gs n a b d) (k : Gs m c e f) (l : n + m + 2 ≤ 12000) (h : ∀ x y z, Nf x y z → Rl (a * c + b * e) (a * e + b * c + b * e) (d * f) x y z → Gs (n + m + 2) x y z → Q (T3 x y z)) : tf__law_times ξ [T3 a b d, T3 c e f] Q := by
  refine ⟨sz (n := 2) (by decide), rfl, rfl, rfl, g.ba.cmul k.ba (by omega), g.bb.cmul k.bb (by omega), g.ba.cmul k.bb (by omega), g.bb.cmul k.ba (by omega), g.bb.cmul k.bb (by omega), g.bd.cmul k.bd (by omega), rfl, ?_⟩
  refine e_least ?_ ?_ ((g.bd.mul k.bd).mono (by omega)) (mulp g.p k.p) l h
  · exact (bp g.ba k.ba g.bb k.bb).mono (by omega)
  · exact ((bp g.ba k.bb g.bb k.ba).add ((g.bb.mul k.bb).mono (by omega)) : Bd (n + m + 1 + 1) _)
/-- c c + c e - e e -/
abbrev nm (c e : Int) : Int := c * c + c * e - e * e
theorem bd_nm (hc : Bd m c) (he : Bd m e) : Bd (m + m + 2) (nm c e) := (bp hc hc hc he).sub ((he.mul he).mono (by omega))
theorem bd_q1 (g : Gs n a b d) (k : Gs m c e f) : Bd (n + m + 2) (a * (c + e) - b * e) := ((g.ba.mul (k.ba.add k.bb)).mono (m := n + m + 1) (by omega)).sub ((g.bb.mul k.bb).mono (by omega))
theorem bd_q2 (g : Gs n a b d) (k : Gs m c e f) : Bd (n + m + 1) (b * c - a * e) := bm g.bb k.ba g.ba k.bb
theorem e_quotient (g : Gs n a b d) (k : Gs m c e f) (l : n + m + m + 2 ≤ 12000) (hx : c = 0 ∧ e = 0 → ξ ⟨"DividedByZero", []⟩) (nz : ¬ (c = 0 ∧ e = 0) → nm c e ≠ 0)
    (h : ¬ (c = 0 ∧ e = 0) → ∀ x y z, Nf x y z → Rl ((a * (c + e) - b * e) * f) ((b * c - a * e) * f) (d * nm c e) x y z → Gs (n + m + m + 2) x y z → Q (T3 x y z)) : tf_quotient ξ [T3 a b d, T3 c e f] Q := by
  have fin : ¬ (c = 0 ∧ e = 0) → CMulW c c ∧ CMulW c e ∧ CMulW e e ∧ CMulW a (c + e) ∧ CMulW b e ∧ CMulW (a * (c + e) - b * e) f ∧ CMulW b c ∧ CMulW a e ∧ CMulW (b * c - a * e) f ∧ CMulW d (nm c e) ∧ 3 = 3 ∧ tf__lowest (fun x => False) [.int ((a * (c + e) - b * e) * f), .int ((b * c - a * e) * f), .int (d * nm c e)] Q := fun nn =>
    ⟨k.ba.cmul k.ba (by omega), k.ba.cmul k.bb (by omega), k.bb.cmul k.bb (by omega), g.ba.cmul (k.ba.add k.bb) (by omega), g.bb.cmul k.bb (by omega), (bd_q1 g k).cmul k.bd (by omega), g.bb.cmul k.ba (by omega), g.ba.cmul k.bb (by omega), (bd_q2 g k).cmul k.bd (by omega), g.bd.cmul (bd_nm k.ba k.bb) (by omega), rfl,
      e_lowest (((bd_q1 g k).mul k.bd).mono (by omega)) (((bd_q2 g k).mul k.bd).mono (by omega)) ((g.bd.mul (bd_nm k.ba k.bb)).mono (by omega)) (fun z => (Int.mul_eq_zero.mp z).elim (fun q => by have := g.p; omega) (nz nn)) l (h nn)⟩
  refine ⟨rfl, e_need g.p ⟨rfl, e_need k.p ⟨rfl, rfl, ?_⟩⟩⟩
  refine ifd (fun h1 => ?_) (fun h1 => fin fun z => h1 z.1)
  refine ifd (fun h2 => hx ⟨h1, h2⟩) (fun h2 => fin fun z => h2 z.2)
end
end K06
set_option maxHeartbeats 2000000
set_option maxRecDepth 100000
namespace K06
open PySem PySem.Spec L2 DL
variable {ξ : XT} {Q : D → Prop}
theorem root5 : ∀ (k : Nat) (n b : Nat), n ≤ k → n * n = 5 * (b * b) → n = 0
  | 0, n, b, h, _ => by omega
  | k + 1, n, b, h, e => by
    have h5 : n % 5 = 0 := by
      have : (n * n) % 5 = 0 := by omega
      rw [Nat.mul_mod] at this
      have l : n % 5 < 5 := Nat.mod_lt _ (by decide)
      generalize n % 5 = r at *
      match r, l with
      | 0, _ => rfl
      | 1, _ => simp at this
      | 2, _ => simp at this
      | 3, _ => simp at this
      | 4, _ => simp at this
    obtain ⟨m, rfl⟩ : ∃ m, n = 5 * m := ⟨n / 5, by omega⟩
    have e2 : b * b = 5 * (m * m) := by
      have : 5 * m * (5 * m) = 25 * (m * m) := by rw [Nat.mul_mul_mul_comm]
      omega
    have hm : m * m ≤ m * m := Nat.le_refl _
    by_cases hm0 : m = 0
    · omega
    · have hb : b ≤ 5 * m - 1 := by
        by_cases hb : b ≤ 5 * m - 1
        · exact hb
        · have h1 : 5 * m ≤ b := by omega
          have h2 := Nat.mul_le_mul h1 h1
          have : 5 * m * (5 * m) = 25 * (m * m) := by rw [Nat.mul_mul_mul_comm]
          have p : 0 < m * m := Nat.mul_pos (by omega) (by omega)
          omega
      have hb0 := root5 k b m (by omega) e2
      subst hb0
      have p : 0 < m * m := Nat.mul_pos (by omega) (by omega)
      omega
theorem nm_ne {c e : Int} (h : ¬ (c = 0 ∧ e = 0)) : nm c e ≠ 0 := fun z => by
  have s : (2 * c + e) * (2 * c + e) = 5 * (e * e) := by unfold nm at z; grind
  have r := root5 _ (2 * c + e).natAbs e.natAbs (Nat.le_refl _) (by
    rw [← Int.natAbs_mul, s, Int.natAbs_mul, Int.natAbs_mul]; rfl)
  have q : 2 * c + e = 0 := Int.natAbs_eq_zero.mp r
  rw [q, Int.zero_mul] at s
  have e0 : e * e = 0 := by omega
  rcases Int.mul_eq_zero.mp e0 with w | w <;> omega
theorem e_draw {n : Int} (h0 : 0 < n) (h1 : n < 1000000000) (h : ∀ r, 0 ≤ r → r < n → Q (.int r)) : tf_draw ξ [.deck, .int n] Q := ⟨⟨h0, h1⟩, h⟩
theorem ix_any {ds : List D} {r : Int} (h0 : 0 ≤ r) (h1 : r < ds.length) (h : ∀ d ∈ ds, Q d) : gIx (.tup ds) (.int r) Q := by
  obtain ⟨j, rfl⟩ : ∃ j : Nat, r = j := ⟨r.toNat, by omega⟩
  have hj : j < ds.length := by omega
  have e : atI ds (j : Int) = some ds[j] := atI_nat (List.getElem?_eq_getElem hj)
  show (match atI ds (j : Int) with | some d => Q d | none => False)
  rw [e]
  exact h _ (List.getElem_mem hj)
theorem e_pick {ds : List D} (h0 : 0 < ds.length) (h1 : ds.length < 1000000000) (h : ∀ d ∈ ds, Q d) : tf__law_pick ξ [.deck, .tup ds] Q :=
  ⟨rfl, e_draw (by omega) (by omega) fun r r0 r1 => ix_any r0 r1 h⟩
theorem ints_cons (lo : Int) (n : Nat) : intsD lo (n + 1) = .int lo :: intsD (lo + 1) n := by
  unfold intsD
  rw [List.range_succ_eq_map, List.map_cons, List.map_map]
  congr 1
  · simp
  · apply List.map_congr_left
    intro i _
    show D.int (lo + ((i + 1 : Nat) : Int)) = D.int (lo + 1 + (i : Int))
    congr 1
    omega
theorem p6 (k : Nat) : (10 : Int) ^ (6 * k) < 2 ^ (20 * k) + 1 := by
  have h : (10 ^ (6 * k) : Nat) ≤ 2 ^ (20 * k) := by
    rw [Nat.pow_mul, Nat.pow_mul]
    exact Nat.pow_le_pow_left (by decide) k
  have : ((10 ^ (6 * k) : Nat) : Int) ≤ ((2 ^ (20 * k) : Nat) : Int) := Int.ofNat_le.mpr h
  rw [Int.natCast_pow, Int.natCast_pow] at this
  have e1 : ((10 : Nat) : Int) = 10 := rfl
  have e2 : ((2 : Nat) : Int) = 2 := rfl
  rw [e1, e2] at this
  omega
theorem bd_pow {x : Int} {k : Nat} (h0 : 0 ≤ x) (h : x < 10 ^ (6 * k)) : Bd (20 * k) x := by
  have := p6 k
  unfold Bd
  have e : ((2 ^ (20 * k) : Nat) : Int) = 2 ^ (20 * k) := by rw [Int.natCast_pow]; rfl
  omega
theorem bd_face {f x : Int} {n : Nat} (hf : f = 1 ∨ f = -1) (h : Bd n x) : Bd n (f * x) := by
  rcases hf with rfl | rfl
  · rw [Int.one_mul]; exact h
  · rw [Int.neg_one_mul]; exact h.neg
theorem loop_int {ξ : XW} {De : DEnds} {x1 x2 x3 : Slot} : ∀ (n i : Nat) (f : Int) (s : Slot) (lo : Int), 0 ≤ f → f < 10 ^ (6 * i) → i + n ≤ 200 → (∀ f s, 0 ≤ f → f < 10 ^ (6 * (i + n)) → De.nx [.d .deck, x1, x2, x3, .d (.int f), s]) →
    forD (dgName 5) (dAsg (dBin gAddA (dBin gMulA (dVar 4) (dBin gPow (dC (.int 10)) (dC (.int 6)))) (dCall 2 tf_draw (dCons (dVar 0) (dCons (dBin gPow (dC (.int 10)) (dC (.int 6))) dNil)))) (dgName 4)) ξ De (intsD lo n) [.d .deck, x1, x2, x3, .d (.int f), s]
  | 0, i, f, s, lo, h0, h1, _, h => h f s h0 h1
  | n + 1, i, f, s, lo, h0, h1, hl, h => by
    rw [ints_cons]
    have pw : CPow 10 6 := ⟨by decide, by decide, by decide⟩
    have bf : Bd 4000 f := (bd_pow h0 h1).mono (by omega)
    refine ⟨pw, bf.cmul (Bd.mono (n := 20) Bd.lit (by decide) : Bd 20 ((10 : Int) ^ (6 : Int).toNat)), pw, rfl, e_draw (by decide) (by decide) fun r r0 r1 => ?_⟩
    refine loop_int n (i + 1) _ _ _ ?_ ?_ (by omega) (by rw [show i + 1 + n = i + (n + 1) by omega]; exact h)
    · have : (10 : Int) ^ (6 : Int).toNat = 1000000 := rfl
      rw [this] at r1 ⊢
      omega
    · have e1 : (10 : Int) ^ (6 : Int).toNat = 1000000 := rfl
      rw [e1] at r1 ⊢
      rw [show 6 * (i + 1) = 6 * i + 6 by omega, Int.pow_add]
      generalize (10 : Int) ^ (6 * i) = z at *
      show f * 1000000 + r < z * 1000000
      omega
theorem e_integer {k : Nat} (h0 : 1 ≤ k) (h1 : k ≤ 166) (h : ∀ x, Bd (20 * k) x → Q (.int x)) : tf__law_integer ξ [.deck, .int (k : Int)] Q := by
  have bk : Bd 10 (k : Int) := by unfold Bd; omega
  refine ⟨rfl, e_draw (by decide) (by decide) fun w w0 w1 => ⟨rfl, e_draw (by decide) (by decide) fun f f0 f1 => ⟨Bd.cmul (n := 2) Bd.lit (bd_small (n := 2) (m := 2) f0 f1), ?_⟩⟩⟩
  have hf : 1 - 2 * f = 1 ∨ 1 - 2 * f = -1 := by omega
  have bf : Bd 2 (1 - 2 * f) := by rcases hf with e | e <;> rw [e] <;> exact Bd.lit
  refine ifd (fun hw => ?_) (fun hw => ?_)
  · refine ⟨sz (n := 6) (by decide), ix_any w0 hw ?_⟩
    intro d hd
    obtain ⟨m, rfl, m0, m1⟩ : ∃ m : Int, d = .int m ∧ 0 < m ∧ m ≤ 1000 := by
      simp only [List.mem_cons, List.not_mem_nil, or_false] at hd
      rcases hd with rfl | rfl | rfl | rfl | rfl | rfl <;> exact ⟨_, rfl, by decide, by decide⟩
    refine ⟨rfl, e_draw m0 (by omega) fun r r0 r1 => ?_⟩
    have br : Bd 10 r := by unfold Bd; omega
    exact ⟨bf.cmul br, h _ ((bd_face hf br).mono (by omega))⟩
  · refine ifd (fun hw6 => ?_) (fun hw6 => ?_)
    · refine ⟨Bd.cmul (n := 3) Bd.lit bk, ⟨by omega, by omega⟩, rfl, e_draw (by decide) (by decide) fun r r0 r1 => ?_⟩
      have e : (6 * (k : Int)).toNat = 6 * k := by omega
      rw [e]
      have l : (1000000 : Int) ≤ 10 ^ (6 * k) := by
        have : (10 ^ 6 : Nat) ≤ 10 ^ (6 * k) := Nat.pow_le_pow_right (by decide) (by omega)
        have := Int.ofNat_le.mpr this
        rw [Int.natCast_pow, Int.natCast_pow] at this
        exact this
      have b : Bd (20 * k) (10 ^ (6 * k) - 1 - r) := bd_pow (by omega) (by omega)
      exact ⟨bf.cmul (b.mono (m := 4000) (by omega)), h _ (bd_face hf b)⟩
    · refine ⟨rfl, e_draw (by omega) (by omega) fun r r0 r1 => ⟨⟨by omega, by omega⟩, ?_⟩⟩
      refine loop_int _ 0 0 _ 0 (Int.le_refl _) (by decide) (by omega) ?_
      intro x s x0 x1
      have b : Bd (20 * k) x := bd_pow x0 (Int.lt_of_lt_of_le x1 (by
        have : (10 ^ (6 * (0 + (1 + r).toNat)) : Nat) ≤ 10 ^ (6 * k) := Nat.pow_le_pow_right (by decide) (by omega)
        have := Int.ofNat_le.mpr this
        rw [Int.natCast_pow, Int.natCast_pow] at this
        exact this))
      exact ⟨bf.cmul (b.mono (m := 4000) (by omega)), h _ (bd_face hf b)⟩
end K06
set_option maxHeartbeats 2000000
set_option maxRecDepth 100000
namespace K06
open PySem PySem.Spec L2 DL
variable {ξ : XT} {Q : D → Prop}
theorem e_gold {k : Nat} (h0 : 1 ≤ k) (h1 : k ≤ 166) (h : ∀ a b d, Gs (20 * k + 1) a b d → Q (T3 a b d)) : tf__law_golden ξ [.deck, .int (k : Int)] Q := by
  refine ⟨sz (n := 10) (by decide), rfl, e_pick (by decide) (by decide) ?_⟩
  intro d hd
  obtain ⟨m, rfl, m0, m1⟩ : ∃ m : Int, d = .int m ∧ 0 ≤ m ∧ m ≤ 12 := by
    simp only [List.mem_cons, List.not_mem_nil, or_false] at hd
    rcases hd with rfl | rfl | rfl | rfl | rfl | rfl | rfl | rfl | rfl | rfl <;> exact ⟨_, rfl, by decide, by decide⟩
  have two : 2 ^ 20 ≤ 2 ^ (20 * k) := Nat.pow_le_pow_right (by decide) (by omega)
  refine ifd (fun hz => ?_) (fun hz => ?_)
  · refine ⟨rfl, e_integer h0 h1 fun x bx => ⟨rfl, e_integer h0 h1 fun y yy => ⟨rfl, e_integer h0 h1 fun u uu => ⟨sz (n := 3) (by decide), h _ _ _ ⟨yy.mono (by omega), uu.mono (by omega), ?_, ?_⟩⟩⟩⟩⟩
    · unfold Bd at *
      rw [Nat.pow_succ]
      split <;> omega
    · split <;> omega
  · refine ⟨rfl, e_integer h0 h1 fun y yy => ⟨rfl, e_integer h0 h1 fun u uu => ⟨sz (n := 3) (by decide), h _ _ _ ⟨yy.mono (by omega), uu.mono (by omega), ?_, by omega⟩⟩⟩⟩
    unfold Bd
    rw [Nat.pow_succ]
    omega
theorem e_other {k n : Nat} {a b d : Int} (h0 : 1 ≤ k) (h1 : k ≤ 166) (hn : n = 20 * k + 1) (g : Gs n a b d) (h : ∀ a b d, Gs (n + 4) a b d → Q (T3 a b d)) : tf__law_other ξ [.deck, T3 a b d, .int (k : Int)] Q := by
  refine ⟨rfl, e_draw (by decide) (by decide) fun w w0 w1 => ⟨rfl, e_draw (by decide) (by decide) fun f f0 f1 => ?_⟩⟩
  have bf : Bd 4 (1 + f) := by unfold Bd; omega
  have l9 : 4 + n ≤ 900000 := by omega
  have c1 := bf.cmul g.ba l9
  have c2 := bf.cmul g.bb l9
  have c3 := bf.cmul g.bd l9
  have pd := mulp (x := 1 + f) (by omega) g.p
  refine ifd (fun hw => ?_) (fun hw => ?_)
  · exact ⟨c1, c2, c3, sz (n := 3) (by decide), h _ _ _ ⟨(bf.mul g.ba).mono (by omega), (bf.mul g.bb).mono (by omega), (bf.mul g.bd).mono (by omega), pd⟩⟩
  refine ifd (fun hw => ?_) (fun hw => ?_)
  · exact ⟨bf.neg.cmul g.ba l9, bf.neg.cmul g.bb l9, c3, sz (n := 3) (by decide), h _ _ _ ⟨(bf.neg.mul g.ba).mono (by omega), (bf.neg.mul g.bb).mono (by omega), (bf.mul g.bd).mono (by omega), pd⟩⟩
  refine ifd (fun hw => ?_) (fun hw => ?_)
  · exact ⟨rfl, l_conj g (by omega) fun x y z _ _ q => h _ _ _ (q.mono (by omega))⟩
  refine ifd (fun hw => ?_) (fun hw => ?_)
  · exact ⟨sz (n := 3) (by decide), h _ _ _ ⟨Bd.mono (n := 4) Bd.lit (by omega), Bd.mono (n := 4) Bd.lit (by omega), bf.mono (by omega), by omega⟩⟩
  refine ifd (fun hw => ?_) (fun hw => ?_)
  · exact ⟨sz (n := 3) (by decide), h _ _ _ ⟨g.bb.mono (by omega), g.ba.mono (by omega), g.bd.mono (by omega), g.p⟩⟩
  · exact ⟨rfl, e_gold h0 h1 fun a b d q => h _ _ _ (q.mono (by omega))⟩
section
variable {a b d c e f : Int} {n m : Nat}
theorem l_quot (g : Gs n a b d) (k : Gs m c e f) (l : n + m + m + 3 ≤ 12000) (nn : ¬ (c = 0 ∧ e = 0))
    (h : ∀ x y z, Nf x y z → Rl ((a * (c + e) - b * e) * f) ((b * c - a * e) * f) (d * nm c e) x y z → Gs (n + m + m + 3) x y z → Q (T3 x y z)) : tf__law_quotient ξ [T3 a b d, T3 c e f] Q := by
  have fin : ∀ s : Int, s = 1 ∨ s = -1 → 1 ≤ s * nm c e → CMulW s f ∧ CMulW a (c + e) ∧ CMulW b e ∧ CMulW (s * f) (a * (c + e) - b * e) ∧ CMulW s f ∧ CMulW b c ∧ CMulW a e ∧ CMulW (s * f) (b * c - a * e) ∧ CMulW s (nm c e) ∧ CMulW (s * nm c e) d ∧ 3 = 3 ∧ tf__law_least (fun x => False) [.int (s * f * (a * (c + e) - b * e)), .int (s * f * (b * c - a * e)), .int (s * nm c e * d)] Q := by
    intro s hs sp
    have bs : Bd 1 s := by rcases hs with rfl | rfl <;> exact Bd.lit
    have bsf : Bd (m + 1) (s * f) := (bs.mul k.bd).mono (by omega)
    have bsn : Bd (m + m + 3) (s * nm c e) := (bs.mul (bd_nm k.ba k.bb)).mono (by omega)
    refine ⟨bs.cmul k.bd (by omega), g.ba.cmul (k.ba.add k.bb) (by omega), g.bb.cmul k.bb (by omega), bsf.cmul (bd_q1 g k) (by omega), bs.cmul k.bd (by omega), g.bb.cmul k.ba (by omega), g.ba.cmul k.bb (by omega), bsf.cmul (bd_q2 g k) (by omega), bs.cmul (bd_nm k.ba k.bb) (by omega), bsn.cmul g.bd (by omega), rfl, ?_⟩
    refine e_least (n := n + m + m + 3) ((bsf.mul (bd_q1 g k)).mono (by omega)) ((bsf.mul (bd_q2 g k)).mono (by omega)) ((bsn.mul g.bd).mono (by omega)) (mulp sp g.p) l fun x y z nf r q => h x y z nf ?_ q
    obtain ⟨r1, r2⟩ := r
    rcases hs with rfl | rfl
    · exact ⟨by grind, by grind⟩
    · exact ⟨by grind, by grind⟩
  refine ⟨sz (n := 2) (by decide), rfl, rfl, rfl, k.ba.cmul k.ba (by omega), k.ba.cmul k.bb (by omega), k.bb.cmul k.bb (by omega), ?_⟩
  have nz := nm_ne nn
  refine ifd (fun h1 => fin 1 (.inl rfl) (by rw [Int.one_mul]; show 1 ≤ nm c e; have h1 : 0 < nm c e := h1; omega)) (fun h1 => fin (-1) (.inr rfl) (by rw [Int.neg_one_mul]; have h1 : ¬ 0 < nm c e := h1; omega))
end
/-! ### what can be shown -/
structure Elt (d : D) : Prop where
  pl : plain d = true
  ok : bigOk (toP d) = true
  dp : (toP d).depth ≤ 1
  ln : (toP d).shown.length ≤ 38800
theorem len_int {n : Nat} {x : Int} (h : Bd n x) (l : n ≤ 12000) : (Str.ofString (toString x)).length ≤ 12901 := by
  have e := int_text_length_le (k := 12900) (by decide) (PySem.Flt.log2_lt_of (by decide) (h.mono (m := 12900) (by omega)))
  rw [PySem.ofString_length]
  omega
theorem elt3 {n : Nat} {x y z : Int} (g : Gs n x y z) (l : n ≤ 12000) : Elt (T3 x y z) := by
  have lg : ∀ {i : Int}, Bd n i → i.natAbs.log2 < 12900 := fun h => PySem.Flt.log2_lt_of (by decide) (h.mono (m := 12900) (by omega))
  have q := tupleText_len_le [Str.ofString (toString x), Str.ofString (toString y), Str.ofString (toString z)]
  have e : (toP (T3 x y z)).shown = tupleText [Str.ofString (toString x), Str.ofString (toString y), Str.ofString (toString z)] := by
    simp only [toP, toPs, PyData.shown, PyData.shownAll]
  refine ⟨rfl, ?_, ?_, ?_⟩
  · simp only [toP, toPs, bigOk, bigOks, decide_eq_true (lg g.ba), decide_eq_true (lg g.bb), decide_eq_true (lg g.bd), Bool.and_self]
  · simp only [toP, toPs, PyData.depth, PyData.depthAll]; decide
  · rw [e]
    have l1 := len_int g.ba l
    have l2 := len_int g.bb l
    have l3 := len_int g.bd l
    simp only [List.map_cons, List.map_nil, List.sum_cons, List.sum_nil, List.length_cons, List.length_nil] at q
    omega
theorem elt_zero : Elt (.str "zero") := ⟨rfl, rfl, by decide +kernel, by decide +kernel⟩
theorem elt_bl (b : Bool) : Elt (.bl b) := ⟨rfl, rfl, by cases b <;> decide +kernel, by cases b <;> decide +kernel⟩
theorem elts : ∀ ds : List D, (∀ d ∈ ds, Elt d) → plains ds = true ∧ bigOks (toPs ds) = true ∧ PyData.depthAll (toPs ds) ≤ 1 ∧ ((PyData.shownAll (toPs ds)).map (·.length)).sum ≤ 38800 * ds.length ∧ (PyData.shownAll (toPs ds)).length = ds.length
  | [], _ => by refine ⟨rfl, rfl, by decide, ?_, ?_⟩ <;> simp [toPs, PyData.shownAll]
  | d :: ds, h => by
    obtain ⟨h1, h2, h3, h4, h5⟩ := elts ds fun x m => h x (List.mem_cons_of_mem _ m)
    obtain ⟨k1, k2, k3, k4⟩ := h d List.mem_cons_self
    refine ⟨?_, ?_, ?_, ?_, ?_⟩
    · show (plain d && plains ds) = true
      rw [k1, h1]; rfl
    · show bigOks (toP d :: toPs ds) = true
      simp only [bigOks, k2, h2, Bool.and_self]
    · show PyData.depthAll (toP d :: toPs ds) ≤ 1
      simp only [PyData.depthAll]
      omega
    · show ((PyData.shownAll (toP d :: toPs ds)).map (·.length)).sum ≤ _
      simp only [PyData.shownAll, List.map_cons, List.sum_cons, List.length_cons]
      omega
    · show (PyData.shownAll (toP d :: toPs ds)).length = _
      simp only [PyData.shownAll, List.length_cons, h5]
theorem showL (ds : List D) (h : ∀ d ∈ ds, Elt d) (hl : ds.length ≤ 10) : showB (.lst ds) := by
  obtain ⟨h1, h2, h3, h4, h5⟩ := elts ds h
  refine ⟨h1, ?_, ?_, ?_⟩
  · simp only [toP, bigOk, h2]
  · simp only [toP, PyData.depth]; omega
  · have q := listText_len_le (PyData.shownAll (toPs ds))
    rw [show (toP (.lst ds)).shown = listText (PyData.shownAll (toPs ds)) by simp only [toP, PyData.shown], sizeLine_eq]
    omega
theorem show3 {n : Nat} {x y z : Int} (g : Gs n x y z) (l : n ≤ 12000) : showB (T3 x y z) := by
  have e := elt3 g l
  exact ⟨e.pl, e.ok, Nat.le_trans e.dp (by decide), Nat.le_trans e.ln (by rw [sizeLine_eq]; decide)⟩
theorem same_t {ds es : List D} (e : ds = es) (hs : showB (.tup es)) (h : Q (.bl true)) : tf__law_same ξ [.tup ds, .tup es] Q := by
  subst e
  refine ⟨hs, hs, ?_⟩
  show Q (.bl (decide (_ = _)))
  rw [decide_eq_true rfl]
  exact h
theorem same_l {ds es : List D} (e : ds = es) (hs : showB (.lst es)) (h : Q (.bl true)) : tf__law_same ξ [.lst ds, .lst es] Q := by
  subst e
  refine ⟨hs, hs, ?_⟩
  show Q (.bl (decide (_ = _)))
  rw [decide_eq_true rfl]
  exact h
theorem same3 {n : Nat} {x y z x' y' z' : Int} (h1 : Nf x y z) (h2 : Nf x' y' z') (r : Rl x y z x' y' z') (g : Gs n x' y' z') (l : n ≤ 12000) (h : Q (.bl true)) : tf__law_same ξ [T3 x y z, T3 x' y' z'] Q := by
  obtain ⟨rfl, rfl, rfl⟩ := nf_eq h1 h2 r
  exact same_t rfl (show3 g l) h
end K06
set_option maxHeartbeats 1000000
set_option maxRecDepth 100000
namespace K06
open PySem PySem.Spec L2 DL
variable {ξ : XT} {Q : D → Prop}
section
variable {a b d c e f x y z : Int} {n m : Nat}
theorem Rl.join {A B C x' y' z' : Int} (hC : C ≠ 0) (r : Rl A B C x y z) (r' : Rl A B C x' y' z') : Rl x y z x' y' z' := r.symm.trans hC r'
theorem t3_eq {A B C x' y' z' : Int} (hC : C ≠ 0) (h : Nf x y z) (h' : Nf x' y' z') (r : Rl A B C x y z) (r' : Rl A B C x' y' z') (q : Q (T3 x y z)) : Q (T3 x' y' z') := by
  obtain ⟨rfl, rfl, rfl⟩ := nf_eq h h' (Rl.join hC r r')
  exact q
theorem ne_of1 {x : Int} (h : 1 ≤ x) : x ≠ 0 := by omega
theorem c_reduced (g : Gs n a b d) (l : n ≤ 12000) (nf : Nf x y z) (r : Rl a b d x y z) (q : Q (T3 x y z)) : tf_reduced ξ [T3 a b d] Q := e_reduced g l fun _ _ _ h' r' _ => t3_eq (ne_of1 g.p) nf h' r r' q
theorem c_plus (g : Gs n a b d) (k : Gs m c e f) (l : n + m + 1 ≤ 12000) (nf : Nf x y z) (r : Rl (a * f + c * d) (b * f + e * d) (d * f) x y z) (q : Q (T3 x y z)) : tf_plus ξ [T3 a b d, T3 c e f] Q := e_plus g k l fun _ _ _ h' r' _ => t3_eq (ne_of1 (mulp g.p k.p)) nf h' r r' q
theorem c_minus (g : Gs n a b d) (k : Gs m c e f) (l : n + m + 1 ≤ 12000) (nf : Nf x y z) (r : Rl (a * f + -c * d) (b * f + -e * d) (d * f) x y z) (q : Q (T3 x y z)) : tf_minus ξ [T3 a b d, T3 c e f] Q := e_minus g k l fun _ _ _ h' r' _ => by
  rw [Int.neg_mul, ← Int.sub_eq_add_neg, Int.neg_mul, ← Int.sub_eq_add_neg] at r
  exact t3_eq (ne_of1 (mulp g.p k.p)) nf h' r r' q
theorem c_times (g : Gs n a b d) (k : Gs m c e f) (l : n + m + 2 ≤ 12000) (nf : Nf x y z) (r : Rl (a * c + b * e) (a * e + b * c + b * e) (d * f) x y z) (q : Q (T3 x y z)) : tf_times ξ [T3 a b d, T3 c e f] Q := e_times g k l fun _ _ _ h' r' _ => t3_eq (ne_of1 (mulp g.p k.p)) nf h' r r' q
theorem c_conj (g : Gs n a b d) (l : n + 1 ≤ 12000) (nf : Nf x y z) (r : Rl (a + b) (-b) d x y z) (q : Q (T3 x y z)) : tf_conjugate ξ [T3 a b d] Q := e_conj g l fun _ _ _ h' r' _ => t3_eq (ne_of1 g.p) nf h' r r' q
theorem nz_q (g : Gs n a b d) (nn : ¬ (c = 0 ∧ e = 0)) : d * nm c e ≠ 0 := fun z => (Int.mul_eq_zero.mp z).elim (fun q => by have := g.p; omega) (nm_ne nn)
theorem mm_zero : mm_DividedByZero "DividedByZero" = some true := by decide +kernel
theorem e_divided {nb : Bool} (g : Gs n a b d) (k : Gs m c e f) (l : n + m + m + 2 ≤ 12000) (hz : c = 0 ∧ e = 0 → Q (.str "zero")) (hn : ¬ (c = 0 ∧ e = 0) → ∀ x y z, Nf x y z → Rl ((a * (c + e) - b * e) * f) ((b * c - a * e) * f) (d * nm c e) x y z → Q (T3 x y z)) : tf__law_divided ξ [T3 a b d, T3 c e f, .bl nb] Q := by
  cases nb
  · refine ⟨rfl, e_quotient g k l (fun z => ?_) nm_ne fun nn x y z h r _ => hn nn x y z h r⟩
    unfold wDs
    dsimp only
    rw [mm_zero]
    intro a
    exact hz z
  · refine ⟨⟨rfl, rfl⟩, e_quotient g k l (fun z => ?_) nm_ne fun nn x y z h r _ => hn nn x y z h r⟩
    unfold wDs
    dsimp only
    rw [mm_zero]
    intro a
    exact hz z
def R1 : TDS := (dSeq (dAsg (dLst (dCons (dCall 3 tf__law_least (dCons (dBin gIx (dVar 1) (dC (.int 0))) (dCons (dBin gIx (dVar 1) (dC (.int 1))) (dCons (dBin gIx (dVar 1) (dC (.int 2))) dNil)))) (dCons (dCall 2 tf__law_plus (dCons (dVar 1) (dCons (dVar 2) dNil))) (dCons (dCall 2 tf__law_plus (dCons (dVar 1) (dCons (dCall 1 tf__law_opposite (dCons (dVar 2) dNil)) dNil))) (dCons (dCall 2 tf__law_times (dCons (dVar 1) (dCons (dVar 2) dNil))) dNil))))) (dgName 4))
    (dSeq (dAsg (dBin gAddA (dVar 4) (dLst (dCons (dIf (dTruI (dVar 3)) (dC (.str "zero")) (dCall 2 tf__law_quotient (dCons (dVar 1) (dCons (dVar 2) dNil)))) (dCons (dCall 1 tf__law_conjugate (dCons (dVar 1) dNil)) dNil)))) (dgName 4))
    (dSeq (dAsg (dBin gEq (dCall 2 tf_draw (dCons (dVar 0) (dCons (dC (.int 2)) dNil))) (dC (.int 0))) (dgName 5))
    (dSeq (dIfS (dTruI (dVar 5))
    (dAsg (dLst (dCons (dCallKX 1 1 [0] tf_reduced (dCons (dVar 1) dNil)) (dCons (dCallKX 2 2 [1, 0] tf_plus (dCons (dVar 2) (dCons (dVar 1) dNil))) (dCons (dCallKX 2 2 [1, 0] tf_minus (dCons (dVar 2) (dCons (dVar 1) dNil))) (dCons (dCallKX 2 2 [1, 0] tf_times (dCons (dVar 2) (dCons (dVar 1) dNil))) dNil))))) (dgName 6))
    (dAsg (dLst (dCons (dCallX 1 tf_reduced (dCons (dVar 1) dNil)) (dCons (dCallX 2 tf_plus (dCons (dVar 1) (dCons (dVar 2) dNil))) (dCons (dCallX 2 tf_minus (dCons (dVar 1) (dCons (dVar 2) dNil))) (dCons (dCallX 2 tf_times (dCons (dVar 1) (dCons (dVar 2) dNil))) dNil))))) (dgName 6)))
    (dSeq (dAsg (dBin gAddA (dVar 6) (dLst (dCons (dCall 3 tf__law_divided (dCons (dVar 1) (dCons (dVar 2) (dCons (dVar 5) dNil)))) (dCons (dIf (dTruI (dVar 5)) (dCallKX 1 1 [0] tf_conjugate (dCons (dVar 1) dNil)) (dCallX 1 tf_conjugate (dCons (dVar 1) dNil))) dNil)))) (dgName 6))
    (dRet (dAnd (dCall 2 tf__law_same (dCons (dVar 6) (dCons (dVar 4) dNil))) (dCall 2 tf__law_same (dCons (dLcT (dTup (dCons (dVar 1) (dCons (dVar 2) (dCons (dBin gIx (dVar 6) (dC (.int 0))) (dCons (dBin gIx (dVar 6) (dC (.int 3))) dNil))))) 7 dYes (dCall 1 tf_is_golden (dCons (dVar 7) dNil))) (dCons (dBin gMulA (dLst (dCons (dC (.bl true)) dNil)) (dC (.int 4))) dNil))))))))))
def R6 : TDS := (dSeq (dAsg (dBin gAddA (dVar 6) (dLst (dCons (dCall 3 tf__law_divided (dCons (dVar 1) (dCons (dVar 2) (dCons (dVar 5) dNil)))) (dCons (dIf (dTruI (dVar 5)) (dCallKX 1 1 [0] tf_conjugate (dCons (dVar 1) dNil)) (dCallX 1 tf_conjugate (dCons (dVar 1) dNil))) dNil)))) (dgName 6))
    (dRet (dAnd (dCall 2 tf__law_same (dCons (dVar 6) (dCons (dVar 4) dNil))) (dCall 2 tf__law_same (dCons (dLcT (dTup (dCons (dVar 1) (dCons (dVar 2) (dCons (dBin gIx (dVar 6) (dC (.int 0))) (dCons (dBin gIx (dVar 6) (dC (.int 3))) dNil))))) 7 dYes (dCall 1 tf_is_golden (dCons (dVar 7) dNil))) (dCons (dBin gMulA (dLst (dCons (dC (.bl true)) dNil)) (dC (.int 4))) dNil))))))
theorem r6 {η : XW} {De : DEnds} {s3 s7 : Slot} {nb : Bool} {x0 y0 z0 x3 y3 z3 : Int} {u1 u2 u4 u5 : D} (g : Gs n a b d) (k : Gs m c e f) (p0 : 1 ≤ z0) (p3 : 1 ≤ z3) (hd : ∀ Q : D → Prop, Q u4 → tf__law_divided (fun _ => False) [T3 a b d, T3 c e f, .bl nb] Q) (hc : ∀ (ξ : XT) (Q : D → Prop), Q u5 → tf_conjugate ξ [T3 a b d] Q)
    (hs : showB (.lst [T3 x0 y0 z0, u1, u2, T3 x3 y3 z3, u4, u5])) (h : De.rt (.bl true)) :
    R6 η De [.d .deck, .d (T3 a b d), .d (T3 c e f), s3, .d (.lst [T3 x0 y0 z0, u1, u2, T3 x3 y3 z3, u4, u5]), .d (.bl nb), .d (.lst [T3 x0 y0 z0, u1, u2, T3 x3 y3 z3]), s7] := by
  refine ⟨rfl, hd _ ?_⟩
  cases nb
  · refine ⟨rfl, hc _ _ ⟨sz (n := 2) (by decide), sz (n := 6) (by decide), rfl, same_l rfl hs ?_⟩⟩
    refine ⟨sz (n := 4) (by decide), sz (n := 4) (by decide), rfl, e_isg g.p ⟨rfl, e_isg k.p ⟨rfl, e_isg p0 ⟨rfl, e_isg p3 ?_⟩⟩⟩⟩
    exact ⟨sz (n := 1) (by decide), ⟨by decide, by decide, sz (n := 4) (by decide)⟩, rfl, same_l rfl (showL [.bl true, .bl true, .bl true, .bl true] (fun q hq => by simp only [List.mem_cons, List.not_mem_nil, or_false] at hq; rcases hq with rfl | rfl | rfl | rfl <;> exact elt_bl _) (by decide)) h⟩
  · refine ⟨⟨rfl, rfl⟩, hc _ _ ⟨sz (n := 2) (by decide), sz (n := 6) (by decide), rfl, same_l rfl hs ?_⟩⟩
    refine ⟨sz (n := 4) (by decide), sz (n := 4) (by decide), rfl, e_isg g.p ⟨rfl, e_isg k.p ⟨rfl, e_isg p0 ⟨rfl, e_isg p3 ?_⟩⟩⟩⟩
    exact ⟨sz (n := 1) (by decide), ⟨by decide, by decide, sz (n := 4) (by decide)⟩, rfl, same_l rfl (showL [.bl true, .bl true, .bl true, .bl true] (fun q hq => by simp only [List.mem_cons, List.not_mem_nil, or_false] at hq; rcases hq with rfl | rfl | rfl | rfl <;> exact elt_bl _) (by decide)) h⟩
end
end K06
set_option maxHeartbeats 1000000
set_option maxRecDepth 100000
namespace K06
open PySem PySem.Spec L2 DL
variable {ξ : XT} {Q : D → Prop}
section
variable {a b d c e f x y z : Int} {n m : Nat}
theorem elts6 {u0 u1 u2 u3 u4 u5 : D} (h0 : Elt u0) (h1 : Elt u1) (h2 : Elt u2) (h3 : Elt u3) (h4 : Elt u4) (h5 : Elt u5) : showB (.lst [u0, u1, u2, u3, u4, u5]) := showL _ (fun q hq => by
  simp only [List.mem_cons, List.not_mem_nil, or_false] at hq
  rcases hq with rfl | rfl | rfl | rfl | rfl | rfl <;> assumption) (by simp)
theorem Gs.opp (k : Gs m c e f) : Gs m (-c) (-e) f := ⟨k.ba.neg, k.bb.neg, k.bd, k.p⟩
theorem r1 {η : XW} {De : DEnds} {s4 s5 s6 s7 : Slot} {zb : Bool} (hzb : zb = true ↔ (c = 0 ∧ e = 0)) (g : Gs n a b d) (k : Gs m c e f) (l : n + m + m + 3 ≤ 12000) (l' : n + n + 1 ≤ 12000) (h : De.rt (.bl true)) :
    R1 η De [.d .deck, .d (T3 a b d), .d (T3 c e f), .d (.bl zb), s4, s5, s6, s7] := by
  refine ⟨rfl, e_least g.ba g.bb g.bd g.p (by omega) fun x0 y0 z0 n0 q0 g0 => ⟨rfl, l_plus g k (by omega) fun x1 y1 z1 n1 q1 g1 => ⟨rfl, l_opp ⟨rfl, l_plus g k.opp (by omega) fun x2 y2 z2 n2 q2 g2 => ⟨rfl, l_times g k (by omega) fun x3 y3 z3 n3 q3 g3 => ⟨sz (n := 4) (by decide), ?_⟩⟩⟩⟩⟩⟩
  have u5 : ∀ (u4 : D), Elt u4 → (∀ (nb : Bool) (Q : D → Prop), Q u4 → tf__law_divided (fun _ => False) [T3 a b d, T3 c e f, .bl nb] Q) → ∀ x5 y5 z5, Nf x5 y5 z5 → Rl (a + b) (-b) d x5 y5 z5 → Gs (n + 1) x5 y5 z5 →
      (dSeq (dAsg (dBin gEq (dCall 2 tf_draw (dCons (dVar 0) (dCons (dC (.int 2)) dNil))) (dC (.int 0))) (dgName 5))
    (dSeq (dIfS (dTruI (dVar 5))
    (dAsg (dLst (dCons (dCallKX 1 1 [0] tf_reduced (dCons (dVar 1) dNil)) (dCons (dCallKX 2 2 [1, 0] tf_plus (dCons (dVar 2) (dCons (dVar 1) dNil))) (dCons (dCallKX 2 2 [1, 0] tf_minus (dCons (dVar 2) (dCons (dVar 1) dNil))) (dCons (dCallKX 2 2 [1, 0] tf_times (dCons (dVar 2) (dCons (dVar 1) dNil))) dNil))))) (dgName 6))
    (dAsg (dLst (dCons (dCallX 1 tf_reduced (dCons (dVar 1) dNil)) (dCons (dCallX 2 tf_plus (dCons (dVar 1) (dCons (dVar 2) dNil))) (dCons (dCallX 2 tf_minus (dCons (dVar 1) (dCons (dVar 2) dNil))) (dCons (dCallX 2 tf_times (dCons (dVar 1) (dCons (dVar 2) dNil))) dNil))))) (dgName 6)))
    R6)) η De [.d .deck, .d (T3 a b d), .d (T3 c e f), .d (.bl zb), .d (.lst [T3 x0 y0 z0, T3 x1 y1 z1, T3 x2 y2 z2, T3 x3 y3 z3, u4, T3 x5 y5 z5]), s5, s6, s7] := by
    intro u4 e4 h4 x5 y5 z5 n5 q5 g5
    refine ⟨rfl, e_draw (by decide) (by decide) fun r r0 r1 => ?_⟩
    have sh := elts6 (elt3 g0 (by omega)) (elt3 g1 (by omega)) (elt3 g2 (by omega)) (elt3 g3 (by omega)) e4 (elt3 g5 (by omega))
    have hc : ∀ (ξ : XT) (Q : D → Prop), Q (T3 x5 y5 z5) → tf_conjugate ξ [T3 a b d] Q := fun ξ Q q => c_conj g (by omega) n5 q5 q
    refine ifd (fun hr => ?_) (fun hr => ?_)
    · refine ⟨⟨rfl, rfl⟩, c_reduced g (by omega) n0 q0 ⟨⟨rfl, rfl⟩, c_plus g k (by omega) n1 q1 ⟨⟨rfl, rfl⟩, c_minus g k (by omega) n2 q2 ⟨⟨rfl, rfl⟩, c_times g k (by omega) n3 q3 ⟨sz (n := 4) (by decide), ?_⟩⟩⟩⟩⟩
      exact r6 g k n0.p n3.p (fun Q q => h4 _ Q q) hc sh h
    · refine ⟨rfl, c_reduced g (by omega) n0 q0 ⟨rfl, c_plus g k (by omega) n1 q1 ⟨rfl, c_minus g k (by omega) n2 q2 ⟨rfl, c_times g k (by omega) n3 q3 ⟨sz (n := 4) (by decide), ?_⟩⟩⟩⟩⟩
      exact r6 g k n0.p n3.p (fun Q q => h4 _ Q q) hc sh h
  cases zb
  · have nn : ¬ (c = 0 ∧ e = 0) := fun z => Bool.noConfusion (hzb.mpr z)
    refine ⟨rfl, l_quot g k (by omega) nn fun x4 y4 z4 n4 q4 g4 => ⟨rfl, l_conj g (by omega) fun x5 y5 z5 n5 q5 g5 => ⟨sz (n := 2) (by decide), sz (n := 6) (by decide), ?_⟩⟩⟩
    exact u5 (T3 x4 y4 z4) (elt3 g4 (by omega)) (fun nb Q q => e_divided g k (by omega) (fun z => (nn z).elim) fun _ x y z h' r' => t3_eq (nz_q g nn) n4 h' q4 r' q) x5 y5 z5 n5 q5 g5
  · have hz := hzb.mp rfl
    refine ⟨rfl, l_conj g (by omega) fun x5 y5 z5 n5 q5 g5 => ⟨sz (n := 2) (by decide), sz (n := 6) (by decide), ?_⟩⟩
    exact u5 (.str "zero") elt_zero (fun nb Q q => e_divided g k (by omega) (fun _ => q) fun nn => (nn hz).elim) x5 y5 z5 n5 q5 g5
theorem e_right (g : Gs n a b d) (k : Gs m c e f) (l : n + m + m + 3 ≤ 12000) (l' : n + n + 1 ≤ 12000) (h : Q (.bl true)) : tf__law_are_right ξ [.deck, T3 a b d, T3 c e f] Q := by
  refine ifd (fun h1 => ?_) (fun h1 => ?_)
  · show R1 (fun _ _ => False) { nx := fun _ => Q .non, rt := Q } [.d .deck, .d (T3 a b d), .d (T3 c e f), .d (.bl (decide (e = 0))), .un, .un, .un, .un]
    exact r1 (by rw [decide_eq_true_iff]; exact ⟨fun z => ⟨h1, z⟩, fun z => z.2⟩) g k l l' h
  · exact r1 (zb := false) (by constructor <;> intro z; exact Bool.noConfusion z; exact (h1 z.1).elim) g k l l' h
end
end K06
set_option maxHeartbeats 1000000
set_option maxRecDepth 100000
namespace K06
open PySem PySem.Spec L2 DL
variable {ξ : XT} {Q : D → Prop}
section
variable {a b d c e f x y z a' b' d' c' e' f' x' y' z' : Int} {n m : Nat}
theorem Rl.join2 {A B C A' B' C' : Int} (hC : C ≠ 0) (hC' : C' ≠ 0) (q : Rl A B C A' B' C') (r : Rl A B C x y z) (r' : Rl A' B' C' x' y' z') : Rl x y z x' y' z' := r.symm.trans hC (q.trans hC' r')
theorem k_plus (t : Rl a b d a' b' d') (s : Rl c e f c' e' f') : Rl (a * f + c * d) (b * f + e * d) (d * f) (a' * f' + c' * d') (b' * f' + e' * d') (d' * f') := by
  obtain ⟨t1, t2⟩ := t
  obtain ⟨s1, s2⟩ := s
  constructor <;> grind
theorem k_minus (t : Rl a b d a' b' d') : Rl (c * d - a * f) (e * d - b * f) (f * d) (c * d' + -a' * f) (e * d' + -b' * f) (f * d') := by
  obtain ⟨t1, t2⟩ := t
  constructor <;> grind
theorem k_times (t : Rl a b d a' b' d') (s : Rl c e f c' e' f') : Rl (a * c + b * e) (a * e + b * c + b * e) (d * f) (a' * c' + b' * e') (a' * e' + b' * c' + b' * e') (d' * f') := by
  obtain ⟨t1, t2⟩ := t
  obtain ⟨s1, s2⟩ := s
  have h1 : (a' * d) * (c' * f) = (a * d') * (c * f') := by rw [t1, s1]
  have h2 : (b' * d) * (e' * f) = (b * d') * (e * f') := by rw [t2, s2]
  have h3 : (a' * d) * (e' * f) = (a * d') * (e * f') := by rw [t1, s2]
  have h4 : (b' * d) * (c' * f) = (b * d') * (c * f') := by rw [t2, s1]
  constructor <;> grind
theorem k_conj (t : Rl a b d a' b' d') : Rl (a + b) (-b) d (a' + b') (-b') d' := by
  obtain ⟨t1, t2⟩ := t
  constructor <;> grind
theorem k_quot {N : Int} (t : Rl a b d a' b' d') : Rl ((a * (c + e) - b * e) * f) ((b * c - a * e) * f) (d * N) ((a' * (c + e) - b' * e) * f) ((b' * c - a' * e) * f) (d' * N) := by
  obtain ⟨t1, t2⟩ := t
  constructor <;> grind
def Tail : TDS := (dSeq (dPar 3 4 (dCons (dVar 8) (dCons (dVar 9) dNil)))
    (dIfS (dtNot (dTest (dCall 2 tf__law_same (dCons (dVar 1) (dCons (dVar 2) dNil)))))
    (dRet (dC (.bl false)))
    dNext))
def Branch : TDS := (dIfS (dTest (dBin gEq (dVar 6) (dC (.int 0))))
    (dPar 1 2 (dCons (dCallX 2 tf_plus (dCons (dVar 1) (dCons (dVar 7) dNil))) (dCons (dCall 2 tf__law_plus (dCons (dVar 2) (dCons (dVar 7) dNil))) dNil)))
    (dIfS (dTest (dBin gEq (dVar 6) (dC (.int 1))))
    (dPar 1 2 (dCons (dCallX 2 tf_minus (dCons (dVar 7) (dCons (dVar 1) dNil))) (dCons (dCall 2 tf__law_plus (dCons (dVar 7) (dCons (dCall 1 tf__law_opposite (dCons (dVar 2) dNil)) dNil))) dNil)))
    (dIfS (dTest (dBin gEq (dVar 6) (dC (.int 2))))
    (dPar 1 2 (dCons (dCallX 2 tf_times (dCons (dVar 1) (dCons (dVar 7) dNil))) (dCons (dCall 2 tf__law_times (dCons (dVar 2) (dCons (dVar 7) dNil))) dNil)))
    (dIfS (dtAnd (dTest (dBin gEq (dVar 6) (dC (.int 3)))) (dtOr (dTest (dBin gNe (dBin gIx (dVar 7) (dC (.int 0))) (dC (.int 0)))) (dTest (dBin gNe (dBin gIx (dVar 7) (dC (.int 1))) (dC (.int 0))))))
    (dPar 1 2 (dCons (dCallX 2 tf_quotient (dCons (dVar 1) (dCons (dVar 7) dNil))) (dCons (dCall 2 tf__law_quotient (dCons (dVar 2) (dCons (dVar 7) dNil))) dNil)))
    (dIfS (dTest (dBin gEq (dVar 6) (dC (.int 4))))
    (dPar 1 2 (dCons (dCallX 2 tf_plus (dCons (dCallX 1 tf_conjugate (dCons (dVar 1) dNil)) (dCons (dVar 3) dNil))) (dCons (dCall 2 tf__law_plus (dCons (dCall 1 tf__law_conjugate (dCons (dVar 2) dNil)) (dCons (dVar 4) dNil))) dNil)))
    (dPar 1 2 (dCons (dCallX 2 tf_times (dCons (dVar 3) (dCons (dVar 1) dNil))) (dCons (dCall 2 tf__law_times (dCons (dVar 4) (dCons (dVar 2) dNil))) dNil))))))))
def Body : TDS := (dSeq (dPar 6 7 (dCons (dCall 2 tf_draw (dCons (dVar 0) (dCons (dC (.int 6)) dNil))) (dCons (dCall 2 tf__law_golden (dCons (dVar 0) (dCons (dC (.int 1)) dNil))) dNil)))
    (dSeq (dPar 8 9 (dCons (dVar 1) (dCons (dVar 2) dNil)))
    (dSeq Branch
    Tail)))
theorem t_end {η : XW} {De : DEnds} {s3 s4 s5 s6 s7 : Slot} {t u : D} (hs : showB (T3 x y z)) (h : De.nx [.d .deck, .d (T3 x y z), .d (T3 x y z), .d t, .d u, s5, s6, s7, .d t, .d u]) :
    Tail η De [.d .deck, .d (T3 x y z), .d (T3 x y z), s3, s4, s5, s6, s7, .d t, .d u] := ⟨rfl, same_t rfl hs h⟩
/-- told and due, ahead and before: the same numbers -/
theorem b_step {De : DEnds} {s5 s8 s9 : Slot} {w p0 p1 pd sa sb sd va vb vd : Int} (hm : 21 ≤ m) (l : 2 * m + 60 ≤ 12000) (gp : Gs 21 p0 p1 pd) (gt : Gs m a b d) (gu : Gs m a' b' d') (tu : Rl a b d a' b' d') (gs : Gs m sa sb sd) (gv : Gs m va vb vd) (sv : Rl sa sb sd va vb vd)
    (h : ∀ x y z, Gs (2 * m + 60) x y z → De.nx [.d .deck, .d (T3 x y z), .d (T3 x y z), .d (T3 sa sb sd), .d (T3 va vb vd), s5, .d (.int w), .d (T3 p0 p1 pd), s8, s9]) :
    Branch (fun _ _ => False) De [.d .deck, .d (T3 a b d), .d (T3 a' b' d'), .d (T3 sa sb sd), .d (T3 va vb vd), s5, .d (.int w), .d (T3 p0 p1 pd), s8, s9] := by
  have one : ∀ {x y z x' y' z' : Int}, Nf x y z → Nf x' y' z' → Rl x y z x' y' z' → Gs (2 * m + 60) x y z → De.nx [.d .deck, .d (T3 x y z), .d (T3 x' y' z'), .d (T3 sa sb sd), .d (T3 va vb vd), s5, .d (.int w), .d (T3 p0 p1 pd), s8, s9] := by
    intro x y z x' y' z' n1 n2 r g
    obtain ⟨rfl, rfl, rfl⟩ := nf_eq n1 n2 r
    exact h _ _ _ g
  have d0 := ne_of1 gt.p
  have d1 := ne_of1 gu.p
  have last : (dPar 1 2 (dCons (dCallX 2 tf_times (dCons (dVar 3) (dCons (dVar 1) dNil))) (dCons (dCall 2 tf__law_times (dCons (dVar 4) (dCons (dVar 2) dNil))) dNil))) (fun _ _ => False) De [.d .deck, .d (T3 a b d), .d (T3 a' b' d'), .d (T3 sa sb sd), .d (T3 va vb vd), s5, .d (.int w), .d (T3 p0 p1 pd), s8, s9] :=
    ⟨rfl, e_times gs gt (by omega) fun x y z n1 r1 g1 => ⟨rfl, l_times gv gu (by omega) fun x' y' z' n2 r2 _ => one n1 n2 (Rl.join2 (ne_of1 (mulp gs.p gt.p)) (ne_of1 (mulp gv.p gu.p)) (k_times sv tu) r1 r2) (g1.mono (by omega))⟩⟩
  have four : (dIfS (dTest (dBin gEq (dVar 6) (dC (.int 4))))
    (dPar 1 2 (dCons (dCallX 2 tf_plus (dCons (dCallX 1 tf_conjugate (dCons (dVar 1) dNil)) (dCons (dVar 3) dNil))) (dCons (dCall 2 tf__law_plus (dCons (dCall 1 tf__law_conjugate (dCons (dVar 2) dNil)) (dCons (dVar 4) dNil))) dNil)))
    (dPar 1 2 (dCons (dCallX 2 tf_times (dCons (dVar 3) (dCons (dVar 1) dNil))) (dCons (dCall 2 tf__law_times (dCons (dVar 4) (dCons (dVar 2) dNil))) dNil)))) (fun _ _ => False) De [.d .deck, .d (T3 a b d), .d (T3 a' b' d'), .d (T3 sa sb sd), .d (T3 va vb vd), s5, .d (.int w), .d (T3 p0 p1 pd), s8, s9] := by
    refine ifd (fun _ => ?_) (fun _ => last)
    refine ⟨rfl, e_conj gt (by omega) fun u1 u2 u3 n1 r1 g1 => ⟨rfl, e_plus g1 gs (by omega) fun x y z n2 r2 g2 => ⟨rfl, l_conj gu (by omega) fun w1 w2 w3 n3 r3 g3 => ⟨rfl, l_plus g3 gv (by omega) fun x' y' z' n4 r4 _ => one n2 n4 ?_ (g2.mono (by omega))⟩⟩⟩⟩
    have cc : Rl u1 u2 u3 w1 w2 w3 := Rl.join2 d0 d1 (k_conj tu) r1 r3
    exact Rl.join2 (ne_of1 (mulp g1.p gs.p)) (ne_of1 (mulp g3.p gv.p)) (k_plus cc sv) r2 r4
  have quo : ¬ (p0 = 0 ∧ p1 = 0) → (dPar 1 2 (dCons (dCallX 2 tf_quotient (dCons (dVar 1) (dCons (dVar 7) dNil))) (dCons (dCall 2 tf__law_quotient (dCons (dVar 2) (dCons (dVar 7) dNil))) dNil))) (fun _ _ => False) De [.d .deck, .d (T3 a b d), .d (T3 a' b' d'), .d (T3 sa sb sd), .d (T3 va vb vd), s5, .d (.int w), .d (T3 p0 p1 pd), s8, s9] := fun nn =>
    ⟨rfl, e_quotient gt gp (by omega) (fun z => nn z) nm_ne fun _ x y z n1 r1 g1 => ⟨rfl, l_quot gu gp (by omega) nn fun x' y' z' n2 r2 _ => one n1 n2 (Rl.join2 (nz_q gt nn) (nz_q gu nn) (k_quot tu) r1 r2) (g1.mono (by omega))⟩⟩
  refine ifd (fun _ => ?_) (fun _ => ?_)
  · exact ⟨rfl, e_plus gt gp (by omega) fun x y z n1 r1 g1 => ⟨rfl, l_plus gu gp (by omega) fun x' y' z' n2 r2 _ => one n1 n2 (Rl.join2 (ne_of1 (mulp gt.p gp.p)) (ne_of1 (mulp gu.p gp.p)) (k_plus tu .refl) r1 r2) (g1.mono (by omega))⟩⟩
  refine ifd (fun _ => ?_) (fun _ => ?_)
  · exact ⟨rfl, e_minus gp gt (by omega) fun x y z n1 r1 g1 => ⟨rfl, l_opp ⟨rfl, l_plus gp gu.opp (by omega) fun x' y' z' n2 r2 _ => one n1 n2 (Rl.join2 (ne_of1 (mulp gp.p gt.p)) (ne_of1 (mulp gp.p gu.p)) (k_minus tu) r1 r2) (g1.mono (by omega))⟩⟩⟩
  refine ifd (fun _ => ?_) (fun _ => ?_)
  · exact ⟨rfl, e_times gt gp (by omega) fun x y z n1 r1 g1 => ⟨rfl, l_times gu gp (by omega) fun x' y' z' n2 r2 _ => one n1 n2 (Rl.join2 (ne_of1 (mulp gt.p gp.p)) (ne_of1 (mulp gu.p gp.p)) (k_times tu .refl) r1 r2) (g1.mono (by omega))⟩⟩
  refine ifd (fun _ => ?_) (fun _ => four)
  refine ifdn (fun h0 => quo fun z => h0 z.1) (fun h0 => ?_)
  exact ifdn (fun h1 => quo fun z => h1 z.2) (fun h1 => four)
theorem e_body {De : DEnds} {s5 s6 s7 s8 s9 : Slot} {sa sb sd va vb vd : Int} (hm : 21 ≤ m) (l : 2 * m + 60 ≤ 12000) (gt : Gs m a b d) (gu : Gs m a' b' d') (tu : Rl a b d a' b' d') (gs : Gs m sa sb sd) (gv : Gs m va vb vd) (sv : Rl sa sb sd va vb vd)
    (h : ∀ x y z s6 s7, Gs (2 * m + 60) x y z → De.nx [.d .deck, .d (T3 x y z), .d (T3 x y z), .d (T3 a b d), .d (T3 a' b' d'), s5, s6, s7, .d (T3 a b d), .d (T3 a' b' d')]) :
    Body (fun _ _ => False) De [.d .deck, .d (T3 a b d), .d (T3 a' b' d'), .d (T3 sa sb sd), .d (T3 va vb vd), s5, s6, s7, s8, s9] := by
  refine ⟨rfl, e_draw (by decide) (by decide) fun w w0 w1 => ⟨rfl, e_gold (k := 1) (by decide) (by decide) fun p0 p1 pd gp => ?_⟩⟩
  exact b_step hm l gp gt gu tu gs gv sv fun x y z g => t_end (show3 g l) (h x y z _ _ g)
theorem l_loop {De : DEnds} (hf : ∀ env, De.nx env) : ∀ (i m : Nat) (lo : Int) (a b d a' b' d' sa sb sd va vb vd : Int) (s5 s6 s7 s8 s9 : Slot), 21 ≤ m → (m + 60) * 2 ^ i ≤ 10368 → Gs m a b d → Gs m a' b' d' → Rl a b d a' b' d' → Gs m sa sb sd → Gs m va vb vd → Rl sa sb sd va vb vd →
    forD (dgName 5) Body (fun _ _ => False) De (intsD lo i) [.d .deck, .d (T3 a b d), .d (T3 a' b' d'), .d (T3 sa sb sd), .d (T3 va vb vd), s5, s6, s7, s8, s9]
  | 0, m, lo, a, b, d, a', b', d', sa, sb, sd, va, vb, vd, s5, s6, s7, s8, s9, hm, hl, gt, gu, tu, gs, gv, sv => hf _
  | i + 1, m, lo, a, b, d, a', b', d', sa, sb, sd, va, vb, vd, s5, s6, s7, s8, s9, hm, hl, gt, gu, tu, gs, gv, sv => by
    rw [ints_cons]
    rw [Nat.pow_succ, Nat.mul_comm (2 ^ i) 2, ← Nat.mul_assoc] at hl
    have p : 1 ≤ 2 ^ i := Nat.one_le_pow _ _ (by decide)
    have l2 : (m + 60) * 2 ≤ 10368 := Nat.le_trans (Nat.le_mul_of_pos_right _ p) hl
    refine e_body hm (by omega) gt gu tu gs gv sv fun x y z s6 s7 g => ?_
    exact l_loop hf i (2 * m + 60) (lo + 1) x y z x y z a b d a' b' d' _ s6 s7 _ _ (by omega) (by rw [show 2 * m + 60 + 60 = (m + 60) * 2 by omega]; exact hl) g g .refl (gt.mono (by omega)) (gu.mono (by omega)) tu
theorem e_chain (h : Q (.bl true)) : tf__law_is_chain_right ξ [.deck] Q := by
  refine ⟨rfl, e_gold (k := 1) (by decide) (by decide) fun a b d g => ⟨rfl, e_least g.ba g.bb g.bd g.p (by decide) fun x y z n1 r1 g1 => ⟨rfl, e_least g.ba g.bb g.bd g.p (by decide) fun x' y' z' n2 r2 g2 => ⟨⟨by decide, by decide⟩, ?_⟩⟩⟩⟩
  exact l_loop (fun _ => h) 7 21 0 a b d x y z a b d x' y' z' _ _ _ _ _ (by decide) (by decide) g g1 r1 g g2 r2
end
end K06
set_option maxHeartbeats 1000000
set_option maxRecDepth 100000
namespace K06
open PySem PySem.Spec L2 DL
abbrev Lx : XW := fun _ _ => False
abbrev Le : DEnds := { nx := fun _ => False, rt := fun d => d = .bl true }
theorem p_right {Q : D → Prop} {k : Nat} {a b d c e f : Int} (h1 : k ≤ 166) (g : Gs (20 * k + 1) a b d) (q : Gs (20 * k + 1 + 4) c e f) (h : Q (.bl true)) : tf__law_are_right (fun _ => False) [.deck, T3 a b d, T3 c e f] Q := e_right g q (by omega) (by omega) h
def mTurn : TDS := (dSeq (dAsg (dCall 2 tf__law_golden (dCons (dVar 1) (dCons (dC (.int 5)) dNil))) (dgName 3))
    (dIfS (dtNot (dTest (dCall 3 tf__law_are_right (dCons (dVar 1) (dCons (dVar 3) (dCons (dCall 3 tf__law_other (dCons (dVar 1) (dCons (dVar 3) (dCons (dC (.int 5)) dNil)))) dNil))))))
    (dRet (dC (.bl false)))
    dNext))
theorem m_turn {De : DEnds} {s2 s3 s4 s5 : Slot} (h : ∀ s3, De.nx [.un, .d .deck, s2, s3, s4, s5]) : mTurn Lx De [.un, .d .deck, s2, s3, s4, s5] :=
  ⟨rfl, e_gold (k := 5) (by decide) (by decide) fun a b d g => ⟨rfl, e_other (k := 5) (by decide) (by decide) rfl g fun c e f q => ⟨rfl, p_right (k := 5) (by decide) g q (h _)⟩⟩⟩
theorem m_loop {De : DEnds} {s4 s5 : Slot} : ∀ (n : Nat) (lo : Int) (s2 s3 : Slot), (∀ s2 s3, De.nx [.un, .d .deck, s2, s3, s4, s5]) → forD (dgName 2) mTurn Lx De (intsD lo n) [.un, .d .deck, s2, s3, s4, s5]
  | 0, lo, s2, s3, h => h _ _
  | n + 1, lo, s2, s3, h => by
    rw [ints_cons]
    exact m_turn fun s3 => m_loop n (lo + 1) _ s3 h
def mRest : TDS := (dSeq (dIfS (dTest (dBin gEq (dCall 2 tf_draw (dCons (dVar 1) (dCons (dC (.int 8)) dNil))) (dC (.int 0))))
    (dSeq (dAsg (dCall 2 tf__law_golden (dCons (dVar 1) (dCons (dC (.int 166)) dNil))) (dgName 3))
    (dIfS (dtNot (dTest (dCall 3 tf__law_are_right (dCons (dVar 1) (dCons (dVar 3) (dCons (dCall 3 tf__law_other (dCons (dVar 1) (dCons (dVar 3) (dCons (dC (.int 166)) dNil)))) dNil))))))
    (dRet (dC (.bl false)))
    dNext))
    dNext)
    (dSeq (dPar3 3 4 5 (dCons (dCall 2 tf__law_golden (dCons (dVar 1) (dCons (dC (.int 2)) dNil))) (dCons (dCall 2 tf__law_golden (dCons (dVar 1) (dCons (dC (.int 2)) dNil))) (dCons (dCall 2 tf__law_golden (dCons (dVar 1) (dCons (dC (.int 2)) dNil))) dNil))))
    (dSeq (dIfS (dtNot (dTest (dCall 2 tf__law_same (dCons (dCallX 1 tf_conjugate (dCons (dCallX 2 tf_plus (dCons (dVar 3) (dCons (dVar 4) dNil))) dNil)) (dCons (dCallX 2 tf_plus (dCons (dCallX 1 tf_conjugate (dCons (dVar 3) dNil)) (dCons (dCallX 1 tf_conjugate (dCons (dVar 4) dNil)) dNil))) dNil)))))
    (dRet (dC (.bl false)))
    dNext)
    (dSeq (dIfS (dtNot (dTest (dCall 2 tf__law_same (dCons (dCallX 1 tf_conjugate (dCons (dCallX 2 tf_times (dCons (dVar 3) (dCons (dVar 4) dNil))) dNil)) (dCons (dCallX 2 tf_times (dCons (dCallX 1 tf_conjugate (dCons (dVar 3) dNil)) (dCons (dCallX 1 tf_conjugate (dCons (dVar 4) dNil)) dNil))) dNil)))))
    (dRet (dC (.bl false)))
    dNext)
    (dSeq (dIfS (dtNot (dTest (dCall 2 tf__law_same (dCons (dCallX 2 tf_times (dCons (dVar 3) (dCons (dCallX 2 tf_plus (dCons (dVar 4) (dCons (dVar 5) dNil))) dNil))) (dCons (dCall 2 tf__law_plus (dCons (dCall 2 tf__law_times (dCons (dVar 3) (dCons (dVar 4) dNil))) (dCons (dCall 2 tf__law_times (dCons (dVar 3) (dCons (dVar 5) dNil))) dNil))) dNil)))))
    (dRet (dC (.bl false)))
    dNext)
    (dRet (dCall 1 tf__law_is_chain_right (dCons (dVar 1) dNil))))))))
def mTail : TDS := (dSeq (dPar3 3 4 5 (dCons (dCall 2 tf__law_golden (dCons (dVar 1) (dCons (dC (.int 2)) dNil))) (dCons (dCall 2 tf__law_golden (dCons (dVar 1) (dCons (dC (.int 2)) dNil))) (dCons (dCall 2 tf__law_golden (dCons (dVar 1) (dCons (dC (.int 2)) dNil))) dNil))))
    (dSeq (dIfS (dtNot (dTest (dCall 2 tf__law_same (dCons (dCallX 1 tf_conjugate (dCons (dCallX 2 tf_plus (dCons (dVar 3) (dCons (dVar 4) dNil))) dNil)) (dCons (dCallX 2 tf_plus (dCons (dCallX 1 tf_conjugate (dCons (dVar 3) dNil)) (dCons (dCallX 1 tf_conjugate (dCons (dVar 4) dNil)) dNil))) dNil)))))
    (dRet (dC (.bl false)))
    dNext)
    (dSeq (dIfS (dtNot (dTest (dCall 2 tf__law_same (dCons (dCallX 1 tf_conjugate (dCons (dCallX 2 tf_times (dCons (dVar 3) (dCons (dVar 4) dNil))) dNil)) (dCons (dCallX 2 tf_times (dCons (dCallX 1 tf_conjugate (dCons (dVar 3) dNil)) (dCons (dCallX 1 tf_conjugate (dCons (dVar 4) dNil)) dNil))) dNil)))))
    (dRet (dC (.bl false)))
    dNext)
    (dSeq (dIfS (dtNot (dTest (dCall 2 tf__law_same (dCons (dCallX 2 tf_times (dCons (dVar 3) (dCons (dCallX 2 tf_plus (dCons (dVar 4) (dCons (dVar 5) dNil))) dNil))) (dCons (dCall 2 tf__law_plus (dCons (dCall 2 tf__law_times (dCons (dVar 3) (dCons (dVar 4) dNil))) (dCons (dCall 2 tf__law_times (dCons (dVar 3) (dCons (dVar 5) dNil))) dNil))) dNil)))))
    (dRet (dC (.bl false)))
    dNext)
    (dRet (dCall 1 tf__law_is_chain_right (dCons (dVar 1) dNil)))))))
theorem m_tail {s2 s3 s4 s5 : Slot} : mTail Lx Le [.un, .d .deck, s2, s3, s4, s5] := by
  refine ⟨rfl, e_gold (k := 2) (by decide) (by decide) fun a b d g => ⟨rfl, e_gold (k := 2) (by decide) (by decide) fun c e f k => ⟨rfl, e_gold (k := 2) (by decide) (by decide) fun a' b' d' j => ?_⟩⟩⟩
  have hp := ne_of1 g.p
  have hq := ne_of1 k.p
  have hj := ne_of1 j.p
  have hpq := ne_of1 (mulp g.p k.p)
  refine ⟨rfl, e_plus g k (by decide) fun x y z n1 r1 g1 => ⟨rfl, e_conj g1 (by decide) fun x2 y2 z2 n2 r2 g2 => ⟨rfl, e_conj g (by decide) fun x3 y3 z3 n3 r3 g3 => ⟨rfl, e_conj k (by decide) fun x4 y4 z4 n4 r4 g4 => ⟨rfl, e_plus g3 g4 (by decide) fun x5 y5 z5 n5 r5 g5 => ⟨rfl, same3 n2 n5 ?_ g5 (by decide) ?_⟩⟩⟩⟩⟩⟩
  · have l1 := (k_conj r1).trans (ne_of1 n1.p) r2
    have l2 := (k_plus r3 r4).trans (ne_of1 (mulp n3.p n4.p)) r5
    rw [show (a * f + c * d) + (b * f + e * d) = (a + b) * f + (c + e) * d by grind, show -(b * f + e * d) = -b * f + -e * d by grind] at l1
    exact l1.join hpq l2
  refine ⟨rfl, e_times g k (by decide) fun x y z n1 r1 g1 => ⟨rfl, e_conj g1 (by decide) fun x2 y2 z2 n2 r2 g2 => ⟨rfl, e_conj g (by decide) fun x3 y3 z3 n3 r3 g3 => ⟨rfl, e_conj k (by decide) fun x4 y4 z4 n4 r4 g4 => ⟨rfl, e_times g3 g4 (by decide) fun x5 y5 z5 n5 r5 g5 => ⟨rfl, same3 n2 n5 ?_ g5 (by decide) ?_⟩⟩⟩⟩⟩⟩
  · have l1 := (k_conj r1).trans (ne_of1 n1.p) r2
    have l2 := (k_times r3 r4).trans (ne_of1 (mulp n3.p n4.p)) r5
    rw [show (a * c + b * e) + (a * e + b * c + b * e) = (a + b) * (c + e) + -b * -e by grind, show -(a * e + b * c + b * e) = (a + b) * -e + -b * (c + e) + -b * -e by grind] at l1
    exact l1.join hpq l2
  refine ⟨rfl, e_plus k j (by decide) fun x y z n1 r1 g1 => ⟨rfl, e_times g g1 (by decide) fun x2 y2 z2 n2 r2 g2 => ⟨rfl, l_times g k (by decide) fun x3 y3 z3 n3 r3 g3 => ⟨rfl, l_times g j (by decide) fun x4 y4 z4 n4 r4 g4 => ⟨rfl, l_plus g3 g4 (by decide) fun x5 y5 z5 n5 r5 g5 => ⟨rfl, same3 n2 n5 ?_ g5 (by decide) ?_⟩⟩⟩⟩⟩⟩
  · have l1 := (k_times (Rl.refl (a := a) (b := b) (d := d)) r1).trans (ne_of1 (mulp g.p n1.p)) r2
    have l2 := (k_plus r3 r4).trans (ne_of1 (mulp n3.p n4.p)) r5
    refine Rl.join2 (ne_of1 (mulp g.p (mulp k.p j.p))) (ne_of1 (mulp (mulp g.p k.p) (mulp g.p j.p))) ⟨?_, ?_⟩ l1 l2
    · grind
    · grind
  exact ⟨rfl, e_chain rfl⟩

theorem m_rest {s2 s3 s4 s5 : Slot} : mRest Lx Le [.un, .d .deck, s2, s3, s4, s5] := by
  refine ⟨rfl, e_draw (by decide) (by decide) fun r r0 r1 => ?_⟩
  refine ifd (fun _ => ?_) (fun _ => m_tail)
  refine ⟨rfl, e_gold (k := 166) (by decide) (by decide) fun a b d g => ⟨rfl, e_other (k := 166) (by decide) (by decide) rfl g fun c e f q => ⟨rfl, p_right (k := 166) (by decide) g q ?_⟩⟩⟩
  exact m_tail
theorem math : T_law (fun _ _ => False) { nx := fun _ => False, rt := fun d => d = .bl true } (.un :: .d .deck :: List.replicate 4 .un) :=
  ⟨⟨by decide, by decide⟩, m_loop 5 0 _ _ fun _ _ => m_rest⟩
end K06
set_option Elab.async false
set_option linter.all false
set_option maxRecDepth 100000
set_option maxHeartbeats 4000000
namespace K06
open PySem PySem.Spec L2 DL
open PyProof.Rows hiding St
def dd_is_plain_integer : He.DefD := ⟨("is_plain_integer", none), "is_plain_integer", "is_plain_integer", defArgs s_is_plain_integer, defBody s_is_plain_integer, defScope s_is_plain_integer, [], []⟩
def dd_is_golden : He.DefD := ⟨("is_golden", none), "is_golden", "is_golden", defArgs s_is_golden, defBody s_is_golden, defScope s_is_golden, [], []⟩
def dd_need_golden : He.DefD := ⟨("need_golden", none), "need_golden", "need_golden", defArgs s_need_golden, defBody s_need_golden, defScope s_need_golden, [], []⟩
def dd__lowest : He.DefD := ⟨("_lowest", none), "_lowest", "_lowest", defArgs s__lowest, defBody s__lowest, defScope s__lowest, [], []⟩
def dd_reduced : He.DefD := ⟨("reduced", none), "reduced", "reduced", defArgs s_reduced, defBody s_reduced, defScope s_reduced, [], []⟩
def dd_plus : He.DefD := ⟨("plus", none), "plus", "plus", defArgs s_plus, defBody s_plus, defScope s_plus, [], []⟩
def dd_minus : He.DefD := ⟨("minus", none), "minus", "minus", defArgs s_minus, defBody s_minus, defScope s_minus, [], []⟩
def dd_times : He.DefD := ⟨("times", none), "times", "times", defArgs s_times, defBody s_times, defScope s_times, [], []⟩
def dd_quotient : He.DefD := ⟨("quotient", none), "quotient", "quotient", defArgs s_quotient, defBody s_quotient, defScope s_quotient, [], []⟩
def dd_conjugate : He.DefD := ⟨("conjugate", none), "conjugate", "conjugate", defArgs s_conjugate, defBody s_conjugate, defScope s_conjugate, [], []⟩
def dd__law_deck : He.DefD := ⟨("_law_deck", none), "_law_deck", "_law_deck", defArgs s__law_deck, defBody s__law_deck, defScope s__law_deck, [], []⟩
def dd__law_draw : He.DefD := ⟨("_law_draw", none), "_law_draw", "_law_draw", defArgs s__law_draw, defBody s__law_draw, defScope s__law_draw, [], []⟩
def dd__law_pick : He.DefD := ⟨("_law_pick", none), "_law_pick", "_law_pick", defArgs s__law_pick, defBody s__law_pick, defScope s__law_pick, [], []⟩
def dd__law_integer : He.DefD := ⟨("_law_integer", none), "_law_integer", "_law_integer", defArgs s__law_integer, defBody s__law_integer, defScope s__law_integer, [], []⟩
def dd__law_common : He.DefD := ⟨("_law_common", none), "_law_common", "_law_common", defArgs s__law_common, defBody s__law_common, defScope s__law_common, [], []⟩
def dd__law_least : He.DefD := ⟨("_law_least", none), "_law_least", "_law_least", defArgs s__law_least, defBody s__law_least, defScope s__law_least, [], []⟩
def dd__law_same : He.DefD := ⟨("_law_same", none), "_law_same", "_law_same", defArgs s__law_same, defBody s__law_same, defScope s__law_same, [], []⟩
def dd__law_plus : He.DefD := ⟨("_law_plus", none), "_law_plus", "_law_plus", defArgs s__law_plus, defBody s__law_plus, defScope s__law_plus, [], []⟩
def dd__law_opposite : He.DefD := ⟨("_law_opposite", none), "_law_opposite", "_law_opposite", defArgs s__law_opposite, defBody s__law_opposite, defScope s__law_opposite, [], []⟩
def dd__law_times : He.DefD := ⟨("_law_times", none), "_law_times", "_law_times", defArgs s__law_times, defBody s__law_times, defScope s__law_times, [], []⟩
def dd__law_quotient : He.DefD := ⟨("_law_quotient", none), "_law_quotient", "_law_quotient", defArgs s__law_quotient, defBody s__law_quotient, defScope s__law_quotient, [], []⟩
def dd__law_conjugate : He.DefD := ⟨("_law_conjugate", none), "_law_conjugate", "_law_conjugate", defArgs s__law_conjugate, defBody s__law_conjugate, defScope s__law_conjugate, [], []⟩
def dd__law_golden : He.DefD := ⟨("_law_golden", none), "_law_golden", "_law_golden", defArgs s__law_golden, defBody s__law_golden, defScope s__law_golden, [], []⟩
def dd__law_other : He.DefD := ⟨("_law_other", none), "_law_other", "_law_other", defArgs s__law_other, defBody s__law_other, defScope s__law_other, [], []⟩
def dd__law_divided : He.DefD := ⟨("_law_divided", none), "_law_divided", "_law_divided", defArgs s__law_divided, defBody s__law_divided, defScope s__law_divided, [], []⟩
def dd__law_are_right : He.DefD := ⟨("_law_are_right", none), "_law_are_right", "_law_are_right", defArgs s__law_are_right, defBody s__law_are_right, defScope s__law_are_right, [], []⟩
def dd__law_is_chain_right : He.DefD := ⟨("_law_is_chain_right", none), "_law_is_chain_right", "_law_is_chain_right", defArgs s__law_is_chain_right, defBody s__law_is_chain_right, defScope s__law_is_chain_right, [], []⟩
def dd_law : He.DefD := ⟨("law", none), "law", "law", defArgs s_law, defBody s_law, defScope s_law, [], []⟩
def di_BadNumber : He.DefD := ⟨("BadNumber", some "__init__"), "__init__", "BadNumber.__init__", defArgs i_BadNumber, defBody i_BadNumber, defScope i_BadNumber, [], []⟩
def fn : List He.DefD := [dd_is_plain_integer, dd_is_golden, dd_need_golden, dd__lowest, dd_reduced, dd_plus, dd_minus, dd_times, dd_quotient, dd_conjugate, dd__law_deck, dd__law_draw, dd__law_pick, dd__law_integer, dd__law_common, dd__law_least, dd__law_same, dd__law_plus, dd__law_opposite, dd__law_times, dd__law_quotient, dd__law_conjugate, dd__law_golden, dd__law_other, dd__law_divided, dd__law_are_right, dd__law_is_chain_right, dd_law, di_BadNumber]
def fa : List He.Fa := [.glo "is_plain_integer", .glo "is_golden", .glo "need_golden", .glo "_lowest", .glo "reduced", .glo "plus", .glo "minus", .glo "times", .glo "quotient", .glo "conjugate", .glo "_law_deck", .glo "_law_draw", .glo "_law_pick", .glo "_law_integer", .glo "_law_common", .glo "_law_least", .glo "_law_same", .glo "_law_plus", .glo "_law_opposite", .glo "_law_times", .glo "_law_quotient", .glo "_law_conjugate", .glo "_law_golden", .glo "_law_other", .glo "_law_divided", .glo "_law_are_right", .glo "_law_is_chain_right", .glo "law", .free "abs", .free "bool", .free "int", .free "isinstance", .free "len", .free "list", .free "max", .free "range", .free "repr", .free "tuple"]
def ex (K : PySem.W.Frag) : Bool := bltB K "gcd" "math.gcd" && mxB K && smB K && exfB K "BadNumber" "thing" && exisB K "BadNumber" && refB K "DividedByZero" && exmB K "BadNumber" "DividedByZero" false && exmB K "DividedByZero" "DividedByZero" true && tabNB K TN && clsB K "DividedByZero"
abbrev R : PySem.W.OpenRow := PySem.W.OpenLaw.row PySem.Challenge.rw_nevertwice_k06_sums_products_and_quotien
abbrev hk : PySem.W.Hook := hookF 4 fa fn TN ex
def ob (s : PySem.W.SharedT) : He.AlD × Bool := obsF 4 fa fn TN ex (HandSHeadRun.getT s)
theorem ob_eq (s : PySem.W.SharedT) : ob s = hk.obs s.abs := obsF_eq (HandSHeadRun.getT_eq s)
def nms0 : List Str := ["gcd", "is_plain_integer", "FloorError", "BadNumber", "DividedByZero", "is_golden", "need_golden", "_lowest", "reduced", "plus", "minus", "times", "quotient", "conjugate", "_law_deck", "_law_draw", "_law_pick", "_law_integer", "_law_common", "_law_least", "_law_same", "_law_plus", "_law_opposite", "_law_times", "_law_quotient", "_law_conjugate", "_law_golden", "_law_other", "_law_divided", "_law_are_right"]
def nms1 : List Str := ["_law_is_chain_right"]
def nms : List Str := nms0 ++ nms1
theorem run (w : World) : HandSHeadRun.RunEqI R (PySem.W.view R.prog [0, 35]) hk ob 3160 nms w := by
  unfold HandSHeadRun.RunEqI
  kernel_rfl
theorem facts {P : Program} {w : World} {K : PySem.W.Frag} {h : Heap} {mg : Str → Option Value} {f : Addr} (X : K.In h) (G : h.Ns mainGlobals mg) (hfa : mg ("law" : Str) = some (.ref f)) (c : He.SaysD fa fn K) (ce : ex K = true) :
    ∃ fd : FuncData, tabNB K TN = true ∧ (∀ (s : Shared) (v : Value), BindsTo s fd ⟨[v], []⟩ [("_law_script", v)]) ∧ ∀ base : Heap, K.In base → base.Ns mainGlobals mg → TBs K mg base TN → FnG P w K mg base CX0 7 f fd ["_law_script"] (spLaw K 4 T_law) := by
  obtain ⟨fd0, F0⟩ := c.def_ 0 (d := dd_is_plain_integer) rfl
  obtain ⟨fd1, F1⟩ := c.def_ 1 (d := dd_is_golden) rfl
  obtain ⟨fd2, F2⟩ := c.def_ 2 (d := dd_need_golden) rfl
  obtain ⟨fd3, F3⟩ := c.def_ 3 (d := dd__lowest) rfl
  obtain ⟨fd4, F4⟩ := c.def_ 4 (d := dd_reduced) rfl
  obtain ⟨fd5, F5⟩ := c.def_ 5 (d := dd_plus) rfl
  obtain ⟨fd6, F6⟩ := c.def_ 6 (d := dd_minus) rfl
  obtain ⟨fd7, F7⟩ := c.def_ 7 (d := dd_times) rfl
  obtain ⟨fd8, F8⟩ := c.def_ 8 (d := dd_quotient) rfl
  obtain ⟨fd9, F9⟩ := c.def_ 9 (d := dd_conjugate) rfl
  obtain ⟨fd10, F10⟩ := c.def_ 10 (d := dd__law_deck) rfl
  obtain ⟨fd11, F11⟩ := c.def_ 11 (d := dd__law_draw) rfl
  obtain ⟨fd12, F12⟩ := c.def_ 12 (d := dd__law_pick) rfl
  obtain ⟨fd13, F13⟩ := c.def_ 13 (d := dd__law_integer) rfl
  obtain ⟨fd14, F14⟩ := c.def_ 14 (d := dd__law_common) rfl
  obtain ⟨fd15, F15⟩ := c.def_ 15 (d := dd__law_least) rfl
  obtain ⟨fd16, F16⟩ := c.def_ 16 (d := dd__law_same) rfl
  obtain ⟨fd17, F17⟩ := c.def_ 17 (d := dd__law_plus) rfl
  obtain ⟨fd18, F18⟩ := c.def_ 18 (d := dd__law_opposite) rfl
  obtain ⟨fd19, F19⟩ := c.def_ 19 (d := dd__law_times) rfl
  obtain ⟨fd20, F20⟩ := c.def_ 20 (d := dd__law_quotient) rfl
  obtain ⟨fd21, F21⟩ := c.def_ 21 (d := dd__law_conjugate) rfl
  obtain ⟨fd22, F22⟩ := c.def_ 22 (d := dd__law_golden) rfl
  obtain ⟨fd23, F23⟩ := c.def_ 23 (d := dd__law_other) rfl
  obtain ⟨fd24, F24⟩ := c.def_ 24 (d := dd__law_divided) rfl
  obtain ⟨fd25, F25⟩ := c.def_ 25 (d := dd__law_are_right) rfl
  obtain ⟨fd26, F26⟩ := c.def_ 26 (d := dd__law_is_chain_right) rfl
  obtain ⟨fd27, F27⟩ := c.def_ 27 (d := dd_law) rfl
  obtain ⟨fi0, I0⟩ := c.def_ 28 (d := di_BadNumber) rfl
  simp only [ex, Bool.and_eq_true] at ce
  obtain ⟨⟨⟨⟨⟨⟨⟨⟨⟨ce0, ce1⟩, ce2⟩, ce3⟩, ce4⟩, ce5⟩, ce6⟩, ce7⟩, ce8⟩, ce9⟩ := ce
  obtain ⟨ax0, X0⟩ := exf_ok X G ce3
  obtain ⟨ar0, R0⟩ := ref_ok X G ce5
  obtain ⟨ac0, C0⟩ := cls_ok X G ce9
  let t : Tx K mg := ⟨_,
    fd0,
    F0,
    (He.glo_ok X G (c.fact 0 (f := .glo "is_plain_integer") rfl)),
    _,
    fd1,
    F1,
    (He.glo_ok X G (c.fact 1 (f := .glo "is_golden") rfl)),
    _,
    fd2,
    F2,
    (He.glo_ok X G (c.fact 2 (f := .glo "need_golden") rfl)),
    _,
    fd3,
    F3,
    (He.glo_ok X G (c.fact 3 (f := .glo "_lowest") rfl)),
    _,
    fd4,
    F4,
    (He.glo_ok X G (c.fact 4 (f := .glo "reduced") rfl)),
    _,
    fd5,
    F5,
    (He.glo_ok X G (c.fact 5 (f := .glo "plus") rfl)),
    _,
    fd6,
    F6,
    (He.glo_ok X G (c.fact 6 (f := .glo "minus") rfl)),
    _,
    fd7,
    F7,
    (He.glo_ok X G (c.fact 7 (f := .glo "times") rfl)),
    _,
    fd8,
    F8,
    (He.glo_ok X G (c.fact 8 (f := .glo "quotient") rfl)),
    _,
    fd9,
    F9,
    (He.glo_ok X G (c.fact 9 (f := .glo "conjugate") rfl)),
    _,
    fd10,
    F10,
    (He.glo_ok X G (c.fact 10 (f := .glo "_law_deck") rfl)),
    _,
    fd11,
    F11,
    (He.glo_ok X G (c.fact 11 (f := .glo "_law_draw") rfl)),
    _,
    fd12,
    F12,
    (He.glo_ok X G (c.fact 12 (f := .glo "_law_pick") rfl)),
    _,
    fd13,
    F13,
    (He.glo_ok X G (c.fact 13 (f := .glo "_law_integer") rfl)),
    _,
    fd14,
    F14,
    (He.glo_ok X G (c.fact 14 (f := .glo "_law_common") rfl)),
    _,
    fd15,
    F15,
    (He.glo_ok X G (c.fact 15 (f := .glo "_law_least") rfl)),
    _,
    fd16,
    F16,
    (He.glo_ok X G (c.fact 16 (f := .glo "_law_same") rfl)),
    _,
    fd17,
    F17,
    (He.glo_ok X G (c.fact 17 (f := .glo "_law_plus") rfl)),
    _,
    fd18,
    F18,
    (He.glo_ok X G (c.fact 18 (f := .glo "_law_opposite") rfl)),
    _,
    fd19,
    F19,
    (He.glo_ok X G (c.fact 19 (f := .glo "_law_times") rfl)),
    _,
    fd20,
    F20,
    (He.glo_ok X G (c.fact 20 (f := .glo "_law_quotient") rfl)),
    _,
    fd21,
    F21,
    (He.glo_ok X G (c.fact 21 (f := .glo "_law_conjugate") rfl)),
    _,
    fd22,
    F22,
    (He.glo_ok X G (c.fact 22 (f := .glo "_law_golden") rfl)),
    _,
    fd23,
    F23,
    (He.glo_ok X G (c.fact 23 (f := .glo "_law_other") rfl)),
    _,
    fd24,
    F24,
    (He.glo_ok X G (c.fact 24 (f := .glo "_law_divided") rfl)),
    _,
    fd25,
    F25,
    (He.glo_ok X G (c.fact 25 (f := .glo "_law_are_right") rfl)),
    _,
    fd26,
    F26,
    (He.glo_ok X G (c.fact 26 (f := .glo "_law_is_chain_right") rfl)),
    _,
    fd27,
    F27,
    (He.glo_ok X G (c.fact 27 (f := .glo "law") rfl)),
    (He.free_ok X G (c.fact 28 (f := .free "abs") rfl)),
    (He.free_ok X G (c.fact 29 (f := .free "bool") rfl)),
    (He.free_ok X G (c.fact 30 (f := .free "int") rfl)),
    (He.free_ok X G (c.fact 31 (f := .free "isinstance") rfl)),
    (He.free_ok X G (c.fact 32 (f := .free "len") rfl)),
    (He.free_ok X G (c.fact 33 (f := .free "list") rfl)),
    (He.free_ok X G (c.fact 34 (f := .free "max") rfl)),
    (He.free_ok X G (c.fact 35 (f := .free "range") rfl)),
    (He.free_ok X G (c.fact 36 (f := .free "repr") rfl)),
    (He.free_ok X G (c.fact 37 (f := .free "tuple") rfl)),
    (blt_ok X G ce0),
    ce1,
    ce2,
    ax0,
    _,
    X0,
    fi0,
    I0,
    (exis_ok ce4),
    ar0,
    R0,
    (of_decide_eq_true ce6),
    (of_decide_eq_true ce7),
    ac0,
    C0⟩
  have e := hfa.symm.trans t.m_law
  cases e
  have b := FunD.bindsA (ps := ["_law_script"]) t.F_law fun _ _ _ _ _ _ us hl => match us, hl with | [_], _ => rfl
  exact ⟨t.d_law, ce8, fun s v => b s [v] rfl, fun base _ _ tb => ok_law t⟩
end K06
open PySem PySem.W PySem.Calls PyProof.Rows
set_option maxRecDepth 100000 in
set_option maxHeartbeats 0 in
theorem PySem.Challenge.cw_nevertwice_k06_sums_products_and_quotien_holds : PySem.Challenge.rw_nevertwice_k06_sums_products_and_quotien.Holds := by
  w_on; o_law
  refine HandSHeadRun.head_imp (r := OpenLaw.row PySem.Challenge.rw_nevertwice_k06_sums_products_and_quotien) (q := view (OpenLaw.row PySem.Challenge.rw_nevertwice_k06_sums_products_and_quotien).prog [0, 35]) (H := K06.hk) (ob := K06.ob) (M := 3160) (loose := K06.nms) (d := HandSHeadRun.topDef (OpenLaw.row PySem.Challenge.rw_nevertwice_k06_sums_products_and_quotien).prog 35) (kwd := []) K06.ob_eq
    K06.run (by kernel_rfl) (by kernel_rfl) (by kernel_rfl) (by rfl) (by first | assumption | decide +kernel) (by decide +kernel) ⟨rfl, rfl, rfl, rfl, rfl, by decide +kernel⟩ ?hw ?hc
  case hw => w_witness2
  case hc =>
    refine DL.walk_ofT (l := PySem.Challenge.rw_nevertwice_k06_sums_products_and_quotien) (n := 63) (k := 7) (x := "_law_script") rfl (by decide) (by kernel_rfl) ⟨⟨rfl, by decide, by decide⟩, rfl⟩ ?F
    intro w mg fa h Y G hmg0
    obtain ⟨K, KX, c⟩ := Y
    have hmg : mg ("law" : PySem.Str) = some (.ref fa) := by
      have e : (HandSHeadRun.topDef (OpenLaw.row PySem.Challenge.rw_nevertwice_k06_sums_products_and_quotien).prog 35).name = ("law" : PySem.Str) := by kernel_rfl
      rw [← e]
      exact hmg0
    obtain ⟨fd, htn, hb, hF⟩ := K06.facts (P := (PySem.Challenge.rw_nevertwice_k06_sums_products_and_quotien).prog) (w := w) KX G hmg c.d c.ex
    exact ⟨K, fd, K06.TN.map (fun n => He.cT K (n, none)), DL.spLaw K 4 K06.T_law, KX, DL.cs_ok KX c, hb, fun H a ns hl hT hS => ⟨a, ns, rfl, hS, hl, DL.tabs_start htn hT, K06.math, fun _ => rfl⟩, fun base kb nb tb => hF base kb nb (DL.tbs_of tb)⟩
