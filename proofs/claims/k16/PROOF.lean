import PyProof.Rows.All
import Wide.All
import OpenK.AllK
import Wide.FinOn
import Flt.RightSqrt
import HandS.Comp
import HandS.Deep
import HandS.Defaults
import HandS.EndBits
import HandS.EndTab
import HandS.Ends
import HandS.Exc
import HandS.ExcField
import HandS.ExcOwn
import HandS.ForMost
import HandS.Gcd
import HandS.Head0
import HandS.Head1
import HandS.Head2
import HandS.Head3
import HandS.HeadEnd
import HandS.HeadHook1
import HandS.HeadHook2
import HandS.HeadHook4
import HandS.IsInst
import HandS.Lambda
import HandS.More
import HandS.Strs
import HandS.Style
import HandS.Text
import HandS.TryMany
import HandS.TryOnly
import HandS.TupAny
import HandS.TupMul
import HandS.Walk
import HandS.Wide
import HandS.Zip
import KE.GoesMore
import KE.KExcInit
import KE.KExcIs
import KE.KIntText
import KE.KMathG
import KE.KTupSum
import PyProof.DictStraight
import PyProof.FitsInt
import PyProof.ReprRoads
import PyProof.StrLawsRepr
import PyProof.StrOps2
import PySem.Challenge.RW_nevertwice_k16_whole_all_tiles_that_coul
set_option Elab.async false
set_option linter.all false
set_option maxRecDepth 100000
/-! Data in place of heaps: a reading over plain data, for programs whose values are data and whose one mutable thing is a deck. -/
namespace DL
open PySem PySem.Spec L2
open PyProof.Rows hiding St

/-- data -/
inductive D where
  | non
  | bl (b : Bool)
  | int (i : Int)
  | str (x : Str)
  | tup (ds : List D)
  | lst (ds : List D)
  | dct (ks : List Key) (ds : List D)
  | deck
  | ty (n : String)
  | kt (ds : List D)

/-- defs of laws that make lambdas -/
def lamDefs : List Str := ["_law_are_values_right", "_law_refusals_right", "_law_is_making_right", "_law_is_rest_right", "_law_is_around_right", "_law_are_parts_right", "_law_is_alone_right", "_law_are_two_right", "_law_near_right", "_law_sure_right", "_law_thing_right", "_law_corner_right", "_law_objects_right", "_law_calls", "_law_star_right", "_law_is_right", "_law_is_row_right", "_law_is_neighbour_right", "_law_is_back_right", "_law_two_right", "_law_one_right", "_law_is_floor_refused", "_law_is_great_right"]
def hasDef (K : PySem.W.Frag) (n : Str) : Bool := match PySem.W.nsIn K mainGlobals n with
  | some (some (.ref _)) => true
  | _ => false
def lamQ (n : Str) : Str := n ++ ".<locals>." ++ "<lambda>"
/-- their tables, the names in them -/
def tabsOf (K : PySem.W.Frag) : List (Addr × Str) := (lamDefs.filter (hasDef K)).map fun n => ((He.cT K (n, none)).2, lamQ n)
/-- where the deck stands: its dict, its list; the tables of code objects -/
structure Zn where
  deck : Option (Addr × Addr)
  tabs : List (Addr × Str)
def InZ (Z : Zn) (p : Addr) : Prop := ∃ a l, Z.deck = some (a, l) ∧ (p = a ∨ p = l)
/-- no table of code objects -/
def Kp (o : HO) : Prop := ∀ ps, o ≠ .tbl ps
theorem kp_tup {vs : List V} : Kp (.tup vs) := fun _ h => by cases h
theorem kp_lst {vs : List V} : Kp (.lst vs) := fun _ h => by cases h
theorem kp_dk {vs : List (Key × V)} : Kp (.dK vs) := fun _ h => by cases h
theorem kp_frz {o : Obj} {u : HO} : Kp (.frz o u) := fun _ h => by cases h
theorem kp_xd {vs : List (Str × V)} : Kp (.xd vs) := fun _ h => by cases h
def deckKvs (l : Addr) (m k : Int) : List (Key × V) := [(.inr ("left" : Str), .ref l), (.inr ("mixed" : Str), .int m), (.inr ("draws" : Str), .int k)]
def DeckAt (H : Hp) (a l : Addr) : Prop := ∃ (xs : List Int) (m k : Int), H a = some (.dK (deckKvs l m k)) ∧ H l = some (.lst (xs.map V.int)) ∧ xs.length ≤ 63
/-- a store elsewhere leaves the tables as they are -/
theorem tab_upd {H : Hp} {A P : Addr} {o o' : HO} {q : Str} (h : H A = some o) (n1 : Kp o) (n2 : ∀ φ, o ≠ .ext φ) (t : LamX.TabS H P q) : LamX.TabS (upd H A o') P q := by
  obtain ⟨ps, h1, h2, h3⟩ := t
  have e1 : P ≠ A := fun z => by rw [z, h] at h1; cases h1; exact n1 ps rfl
  refine ⟨ps, by rw [upd_ne e1]; exact h1, h2, fun pos cv hc => ?_⟩
  obtain ⟨c, e2, e3⟩ := h3 pos cv hc
  have e4 : c ≠ A := fun z => by
    rw [z, h] at e3
    unfold LamX.CodeO at e3
    cases e3
    exact n2 _ rfl
  exact ⟨c, e2, by rw [upd_ne e4]; exact e3⟩
def DeckOk (Z : Zn) (H : Hp) : Prop := (∀ a l, Z.deck = some (a, l) → DeckAt H a l) ∧ LamX.Tabs Z.tabs H
/-- what may happen to a heap: new things come, the deck changes as a deck -/
structure Ext (Z : Zn) (H H' : Hp) : Prop where
  keep : ∀ p o, ¬ InZ Z p → Kp o → H p = some o → H' p = some o
  deck : DeckOk Z H → DeckOk Z H'
theorem Ext.refl {Z : Zn} {H : Hp} : Ext Z H H := ⟨fun _ _ _ _ h => h, fun h => h⟩
theorem Ext.trans {Z : Zn} {H H1 H2 : Hp} (a : Ext Z H H1) (b : Ext Z H1 H2) : Ext Z H H2 :=
  ⟨fun p o n k h => b.keep p o n k (a.keep p o n k h), fun h => b.deck (a.deck h)⟩

abbrev NK : Hp := fun _ => none
mutual
/-- the value v is the data d; nothing of it stands where N says -/
def Rep (K : PySem.W.Frag) (Z : Zn) (N : Addr → Prop) (H : Hp) : D → V → Prop
  | .non, v => v = .non
  | .bl b, v => v = .bl b
  | .int i, v => v = .int i
  | .str x, v => v = .str x
  | .tup ds, v => ∃ a vs, v = .ref a ∧ ((¬ N a ∧ H a = some (.tup vs)) ∨ SqT K NK a vs) ∧ Reps K Z N H ds vs
  | .lst ds, v => ∃ a vs, v = .ref a ∧ ¬ N a ∧ H a = some (.lst vs) ∧ Reps K Z N H ds vs
  | .dct ks ds, v => ∃ a vs, v = .ref a ∧ ¬ N a ∧ H a = some (.dK (ks.zip vs)) ∧ ks.length = vs.length ∧ Reps K Z N H ds vs
  | .deck, v => ∃ a l, Z.deck = some (a, l) ∧ v = .ref a
  | .ty n, v => v = .ty n
  | .kt ds, v => ∃ a vs o, v = .ref a ∧ ¬ N a ∧ H a = some (.frz o (.tup vs)) ∧ o.dict = none ∧ Reps K Z N H ds vs
def Reps (K : PySem.W.Frag) (Z : Zn) (N : Addr → Prop) (H : Hp) : List D → List V → Prop
  | [], vs => vs = []
  | d :: ds, vs => ∃ v r, vs = v :: r ∧ Rep K Z N H d v ∧ Reps K Z N H ds r
end
section
variable {K : PySem.W.Frag} {Z : Zn} {N N' : Addr → Prop} {H H' : Hp}
mutual
theorem Rep.mono (hk : ∀ p o, ¬ N p → Kp o → H p = some o → H' p = some o ∧ ¬ N' p) : ∀ (d : D) (v : V), Rep K Z N H d v → Rep K Z N' H' d v
  | .non, _, h => h
  | .bl _, _, h => h
  | .int _, _, h => h
  | .str _, _, h => h
  | .tup ds, v, h => by
    obtain ⟨a, vs, e, r, q⟩ := h
    refine ⟨a, vs, e, ?_, Reps.mono hk ds vs q⟩
    rcases r with ⟨n, r⟩ | r
    · obtain ⟨r', n'⟩ := hk _ _ n kp_tup r
      exact .inl ⟨n', r'⟩
    · exact .inr r
  | .lst ds, v, h => by
    obtain ⟨a, vs, e, n, r, q⟩ := h
    obtain ⟨r', n'⟩ := hk _ _ n kp_lst r
    exact ⟨a, vs, e, n', r', Reps.mono hk ds vs q⟩
  | .dct ks ds, v, h => by
    obtain ⟨a, vs, e, n, r, l, q⟩ := h
    obtain ⟨r', n'⟩ := hk _ _ n kp_dk r
    exact ⟨a, vs, e, n', r', l, Reps.mono hk ds vs q⟩
  | .deck, _, h => h
  | .ty _, _, h => h
  | .kt ds, v, h => by
    obtain ⟨a, vs, o, e, n, r, d, q⟩ := h
    obtain ⟨r', n'⟩ := hk _ _ n kp_frz r
    exact ⟨a, vs, o, e, n', r', d, Reps.mono hk ds vs q⟩
theorem Reps.mono (hk : ∀ p o, ¬ N p → Kp o → H p = some o → H' p = some o ∧ ¬ N' p) : ∀ (ds : List D) (vs : List V), Reps K Z N H ds vs → Reps K Z N' H' ds vs
  | [], _, h => h
  | d :: ds, vs, h => by
    obtain ⟨v, r, e, h1, h2⟩ := h
    exact ⟨v, r, e, Rep.mono hk d v h1, Reps.mono hk ds r h2⟩
end
theorem Rep.ext {d : D} {v : V} (e : Ext Z H H') (hz : ∀ p, InZ Z p → N p) (h : Rep K Z N H d v) : Rep K Z N H' d v :=
  Rep.mono (fun p o n k q => ⟨e.keep p o (fun z => n (hz p z)) k q, n⟩) d v h
theorem Reps.ext {ds : List D} {vs : List V} (e : Ext Z H H') (hz : ∀ p, InZ Z p → N p) (h : Reps K Z N H ds vs) : Reps K Z N H' ds vs :=
  Reps.mono (fun p o n k q => ⟨e.keep p o (fun z => n (hz p z)) k q, n⟩) ds vs h
theorem Rep.less {d : D} {v : V} (hn : ∀ p, N' p → N p) (h : Rep K Z N H d v) : Rep K Z N' H d v :=
  Rep.mono (fun p o n _ q => ⟨q, fun z => n (hn p z)⟩) d v h
theorem Reps.less {ds : List D} {vs : List V} (hn : ∀ p, N' p → N p) (h : Reps K Z N H ds vs) : Reps K Z N' H ds vs :=
  Reps.mono (fun p o n _ q => ⟨q, fun z => n (hn p z)⟩) ds vs h
theorem Reps.length : ∀ {ds : List D} {vs : List V}, Reps K Z N H ds vs → ds.length = vs.length
  | [], _, h => by cases h; rfl
  | d :: ds, _, ⟨v, r, e, _, q⟩ => by subst e; simp [Reps.length q]
theorem Reps.get : ∀ {ds : List D} {vs : List V} {i : Nat} {d : D}, Reps K Z N H ds vs → ds[i]? = some d → ∃ v, vs[i]? = some v ∧ Rep K Z N H d v
  | [], _, _, _, _, e => by simp at e
  | x :: ds, _, 0, d, ⟨v, r, e, h, _⟩, g => by subst e; simp at g; subst g; exact ⟨v, rfl, h⟩
  | x :: ds, _, i + 1, d, ⟨v, r, e, _, q⟩, g => by
    subst e
    obtain ⟨w, h1, h2⟩ := Reps.get (i := i) q (by simpa using g)
    exact ⟨w, by simpa using h1, h2⟩
theorem Reps.getV : ∀ {ds : List D} {vs : List V} {i : Nat} {v : V}, Reps K Z N H ds vs → vs[i]? = some v → ∃ d, ds[i]? = some d ∧ Rep K Z N H d v
  | [], _, _, _, h, e => by cases h; simp at e
  | x :: ds, _, 0, v, ⟨w, r, e, h, _⟩, g => by subst e; simp at g; subst g; exact ⟨x, rfl, h⟩
  | x :: ds, _, i + 1, v, ⟨w, r, e, _, q⟩, g => by
    subst e
    obtain ⟨d, h1, h2⟩ := Reps.getV (i := i) q (by simpa using g)
    exact ⟨d, by simpa using h1, h2⟩
theorem Reps.append : ∀ {ds es : List D} {vs ws : List V}, Reps K Z N H ds vs → Reps K Z N H es ws → Reps K Z N H (ds ++ es) (vs ++ ws)
  | [], _, _, _, h, q => by cases h; exact q
  | d :: ds, _, _, _, ⟨v, r, e, h1, h2⟩, q => by subst e; exact ⟨v, _, rfl, h1, Reps.append h2 q⟩
theorem Reps.snoc {ds : List D} {d : D} {vs : List V} {v : V} (h : Reps K Z N H ds vs) (q : Rep K Z N H d v) : Reps K Z N H (ds ++ [d]) (vs ++ [v]) :=
  h.append ⟨v, [], rfl, q, rfl⟩
theorem Reps.take : ∀ {ds : List D} {vs : List V} (n : Nat), Reps K Z N H ds vs → Reps K Z N H (ds.take n) (vs.take n)
  | _, _, 0, _ => by simp [Reps]
  | [], _, n + 1, h => by cases h; simp [Reps]
  | d :: ds, _, n + 1, ⟨v, r, e, h1, h2⟩ => by subst e; exact ⟨v, _, rfl, h1, Reps.take n h2⟩
theorem Reps.drop : ∀ {ds : List D} {vs : List V} (n : Nat), Reps K Z N H ds vs → Reps K Z N H (ds.drop n) (vs.drop n)
  | _, _, 0, h => h
  | [], _, n + 1, h => by cases h; simp [Reps]
  | d :: ds, _, n + 1, ⟨v, r, e, h1, h2⟩ => by subst e; exact Reps.drop n h2
theorem Reps.ints : ∀ {ns : List Int} {vs : List V}, Reps K Z N H (ns.map D.int) vs → vs = ns.map V.int
  | [], _, h => h
  | n :: ns, _, ⟨v, r, e, h1, h2⟩ => by subst e; rw [show v = V.int n from h1, Reps.ints h2]; rfl
theorem Reps.bls : ∀ {ns : List Bool} {vs : List V}, Reps K Z N H (ns.map D.bl) vs → vs = ns.map V.bl
  | [], _, h => h
  | n :: ns, _, ⟨v, r, e, h1, h2⟩ => by subst e; rw [show v = V.bl n from h1, Reps.bls h2]; rfl
end

/-! ### the state of a def's body -/
/-- an exception as data: its class, what it bears -/
structure DX where
  cls : Str
  fs : List (Str × D)
/-- a slot: unassigned, data, a list of the def's own that it may change -/
inductive Slot where
  | un
  | d (x : D)
  | own (xs : List D)
  | raw (v : V)
abbrev SE := List Slot
structure FP where
  K : PySem.W.Frag
  Z : Zn
  B : Addr → Prop
  H0 : Hp
  ex : DX → SE → Prop
  N1 : Addr → Prop
  H1 : Hp
def SlotOk (F : FP) (N : Addr → Prop) (H : Hp) (o : Option (Option V)) : Slot → Prop
  | .un => True
  | .d x => ∃ v, o = some (some v) ∧ Rep F.K F.Z N H x v
  | .own xs => ∃ p vs, o = some (some (.ref p)) ∧ N p ∧ ¬ F.B p ∧ H p = some (.lst vs) ∧ Reps F.K F.Z N H xs vs
  | .raw v => o = some (some v)
/-- what was frozen is so still -/
def Evo (N : Addr → Prop) (H : Hp) (N' : Addr → Prop) (H' : Hp) : Prop := ∀ p o, ¬ N p → Kp o → H p = some o → H' p = some o ∧ ¬ N' p
theorem Evo.refl {N : Addr → Prop} {H : Hp} : Evo N H N H := fun _ _ n _ h => ⟨h, n⟩
theorem Evo.trans {N N1 N2 : Addr → Prop} {H H1 H2 : Hp} (a : Evo N H N1 H1) (b : Evo N1 H1 N2 H2) : Evo N H N2 H2 := fun p o n k h =>
  let ⟨h1, n1⟩ := a p o n k h
  b p o n1 k h1
structure NOk (F : FP) (N : Addr → Prop) (H : Hp) : Prop where
  deck : DeckOk F.Z H
  ext : Ext F.Z F.H0 H
  sub : ∀ p, F.B p → N p
  zin : ∀ p, InZ F.Z p → F.B p
  all : ∀ p, N p → ∃ o, H p = some o ∧ Kp o
  new : ∀ p, N p → ¬ F.B p → ∀ o, Kp o → F.H0 p = some o → False
  gr : Evo F.N1 F.H1 N H
  tb : F.Z.tabs = tabsOf F.K
structure FOk (F : FP) (N : Addr → Prop) (σ : St) (H : Hp) (env : SE) : Prop where
  n : NOk F N H
  len : σ.length = env.length
  slot : ∀ (i : Nat) s, env[i]? = some s → SlotOk F N H σ[i]? s
  apart : ∀ (i j : Nat) p xs ys, i ≠ j → env[i]? = some (.own xs) → env[j]? = some (.own ys) → σ[i]? = some (some (.ref p)) → σ[j]? = some (some (.ref p)) → False
section
variable {F : FP} {N : Addr → Prop} {σ : St} {H H' : Hp} {env : SE}
theorem NOk.z (n : NOk F N H) (p : Addr) (h : InZ F.Z p) : N p := n.sub p (n.zin p h)
theorem NOk.ext' (n : NOk F N H) (e : Ext F.Z H H') : NOk F N H' where
  deck := e.deck n.deck
  ext := n.ext.trans e
  sub := n.sub
  zin := n.zin
  all := fun p h => by
    by_cases z : InZ F.Z p
    · obtain ⟨a, l, e1, e2⟩ := z
      obtain ⟨xs, m, k, h1, h2, _⟩ := (e.deck n.deck).1 a l e1
      rcases e2 with e2 | e2
      · rw [e2]; exact ⟨_, h1, kp_dk⟩
      · rw [e2]; exact ⟨_, h2, kp_lst⟩
    · obtain ⟨o, q, k⟩ := n.all p h
      exact ⟨o, e.keep p o z k q, k⟩
  new := n.new
  gr := n.gr.trans fun p o np k h => ⟨e.keep p o (fun z => np (n.z p z)) k h, np⟩
  tb := n.tb
theorem SlotOk.ext (n : NOk F N H) (e : Ext F.Z H H') {o : Option (Option V)} : ∀ {s : Slot}, SlotOk F N H o s → SlotOk F N H' o s
  | .un, _ => trivial
  | .d x, ⟨v, h1, h2⟩ => ⟨v, h1, h2.ext e n.z⟩
  | .own xs, ⟨p, vs, h1, h2, h3, h4, h5⟩ => ⟨p, vs, h1, h2, h3, e.keep p _ (fun z => h3 (n.zin p z)) kp_lst h4, h5.ext e n.z⟩
  | .raw v, h => h
theorem FOk.ext' (f : FOk F N σ H env) (e : Ext F.Z H H') : FOk F N σ H' env :=
  ⟨f.n.ext' e, f.len, fun i s q => (f.slot i s q).ext f.n e, f.apart⟩
/-- a new thing -/
theorem NOk.fresh (n : NOk F N H) {p : Addr} (h : H p = none) : ¬ N p := fun q => by
  obtain ⟨o, e, _⟩ := n.all p q
  rw [h] at e; cases e
theorem NOk.new0 (n : NOk F N H) {p : Addr} (h : H p = none) : ∀ o, Kp o → F.H0 p = some o → False := fun o k e => by
  rw [n.ext.keep p o (fun z => n.fresh h (n.z p z)) k e] at h
  cases h
theorem deck_mono {Z : Zn} {H H' : Hp} (k : ∀ q u, H q = some u → H' q = some u) (dk : DeckOk Z H) : DeckOk Z H' :=
  ⟨fun a l e => let ⟨xs, m, c, h1, h2, h3⟩ := dk.1 a l e; ⟨xs, m, c, k _ _ h1, k _ _ h2, h3⟩, dk.2.ext k⟩
theorem Ext.of_mono {Z : Zn} {H H' : Hp} (k : ∀ q u, H q = some u → H' q = some u) : Ext Z H H' := ⟨fun q u _ _ e => k q u e, deck_mono k⟩
theorem NOk.lay (n : NOk F N H) {p : Addr} {o : HO} (h : H p = none) : Ext F.Z H (upd H p o) :=
  .of_mono fun q u e => by rw [upd_ne (ne_of_none e h)]; exact e
end

/-! ### readings over data -/
abbrev XW := DX → SE → Prop
abbrev TDE := XW → SE → (D → Prop) → Prop
abbrev TDT := XW → SE → (Bool → Prop) → Prop
abbrev TDA := XW → SE → (List D → Prop) → Prop
structure DEnds where
  nx : SE → Prop
  rt : D → Prop
  bk : SE → Prop := fun _ => False
  ct : SE → Prop := fun _ => False
abbrev TDS := XW → DEnds → SE → Prop
def tD (F : FP) (T : TDE) : TE := fun σ H Q => ∃ N env Qd, FOk F N σ H env ∧ T F.ex env Qd ∧ ∀ v H' d, Ext F.Z H H' → Rep F.K F.Z N H' d v → Qd d → Q v H'
def tDT (F : FP) (T : TDT) : TT := fun σ H Q => ∃ N env Qd, FOk F N σ H env ∧ T F.ex env Qd ∧ ∀ b H', Ext F.Z H H' → Qd b → Q b H'
def tDA (F : FP) (T : TDA) : TA := fun σ H Q => ∃ N env Qd, FOk F N σ H env ∧ T F.ex env Qd ∧ ∀ vs H' ds, Ext F.Z H H' → Reps F.K F.Z N H' ds vs → Qd ds → Q vs H'
theorem Evo.of {F : FP} {N : Addr → Prop} {H H' : Hp} (n : NOk F N H) (e : Ext F.Z H H') : Evo N H N H' := fun p o np k h => ⟨e.keep p o (fun z => np (n.z p z)) k h, np⟩
/-- what a body's ends mean below -/
structure EndsOk (F : FP) (N0 : Addr → Prop) (H0 : Hp) (Dd : DEnds) (De : Ends) : Prop where
  nx : ∀ N σ H env, FOk F N σ H env → Evo N0 H0 N H → Dd.nx env → De.nx σ H
  rt : ∀ v H d, Ext F.Z F.H0 H → Rep F.K F.Z F.B H d v → Dd.rt d → De.rt v H
  bk : ∀ N σ H env, FOk F N σ H env → Evo N0 H0 N H → Dd.bk env → De.bk σ H
  ct : ∀ N σ H env, FOk F N σ H env → Evo N0 H0 N H → Dd.ct env → De.ct σ H
def sD (F : FP) (T : TDS) : TS := fun De σ H => ∃ N env Dd, FOk F N σ H env ∧ T F.ex Dd env ∧ EndsOk F N H Dd De

section
variable {X : Cx} {e : Expr} {es : List Expr} {st : Stmt} {sts : List Stmt}
theorem PE.imp {t t' : TE} (h : PE X e t) (hi : ∀ σ H Q, t' σ H Q → t σ H Q) : PE X e t' := ⟨fun pins s σ H Q I hw => h.run pins s σ H Q I (hi _ _ _ hw)⟩
theorem PT.imp {t t' : TT} (h : PT X e t) (hi : ∀ σ H Q, t' σ H Q → t σ H Q) : PT X e t' := ⟨fun pins s σ H Q I hw => h.run pins s σ H Q I (hi _ _ _ hw)⟩
theorem PW.imp {t t' : TT} (h : PW X e t) (hi : ∀ σ H Q, t' σ H Q → t σ H Q) : PW X e t' := ⟨fun wh pins s σ H Q I hw => h.run wh pins s σ H Q I (hi _ _ _ hw)⟩
theorem PA.imp {t t' : TA} (h : PA X es t) (hi : ∀ σ H Q, t' σ H Q → t σ H Q) : PA X es t' := ⟨fun pos pins s σ H Q I hw => h.run pos pins s σ H Q I (hi _ _ _ hw)⟩
theorem PS.imp {t t' : TS} (h : PS X st t) (hi : ∀ De σ H, t' De σ H → t De σ H) : PS X st t' := ⟨fun pins s σ H De I hw => h.run pins s σ H De I (hi _ _ _ hw)⟩
theorem PSs.imp {t t' : TS} (h : PSs X sts t) (hi : ∀ De σ H, t' De σ H → t De σ H) : PSs X sts t' := ⟨fun pins s σ H De I hw => h.run pins s σ H De I (hi _ _ _ hw)⟩
end
end DL
set_option Elab.async false
set_option linter.all false
set_option maxRecDepth 100000
namespace DL
open PySem PySem.Spec L2
open PyProof.Rows hiding St

section
variable {K : PySem.W.Frag} {Z : Zn} {N : Addr → Prop} {H : Hp}
theorem rep_int {i : Int} : Rep K Z N H (.int i) (.int i) := rfl
theorem rep_bl {i : Bool} : Rep K Z N H (.bl i) (.bl i) := rfl
theorem rep_str {i : Str} : Rep K Z N H (.str i) (.str i) := rfl
theorem rep_non : Rep K Z N H .non .non := rfl
end
section
variable {X : Cx} {F : FP} {e a b c : Expr} {es : List Expr} {pos : Pos} {Ta Tb Tc : TDE} {Tas : TDA}

/-! ### names, constants -/
def dVar (i : Nat) : TDE := fun _ env Q => match env[i]? with
  | some (.d x) => Q x
  | _ => False
theorem d_var {i : Nat} (h : PE X e (tVar i)) : PE X e (tD F (dVar i)) := PE.imp h (by
  rintro σ H Q ⟨N, env, Qd, f, hT, k⟩
  unfold dVar at hT
  split at hT
  · rename_i x hx
    obtain ⟨v, e1, r⟩ := f.slot i _ hx
    exact ⟨v, e1, k v H x Ext.refl r hT⟩
  · exact hT.elim)
def dC (d : D) : TDE := fun _ _ Q => Q d
theorem d_const {v : V} {d : D} (h : PE X e (tC v)) (hr : ∀ N H, Rep F.K F.Z N H d v) : PE X e (tD F (dC d)) := PE.imp h (by
  rintro σ H Q ⟨N, env, Qd, f, hT, k⟩
  exact k v H d Ext.refl (hr N H) hT)
theorem d_int {i : Int} {j} : PE X (.Constant (.int i) j pos) (tD F (dC (.int i))) := d_const pe_int fun _ _ => rfl
theorem d_bl {i : Bool} {j} : PE X (.Constant (.bool i) j pos) (tD F (dC (.bl i))) := d_const pe_bl fun _ _ => rfl
theorem d_non {j} : PE X (.Constant .none j pos) (tD F (dC .non)) := d_const pe_non fun _ _ => rfl
theorem d_str {i : Str} {j} : PE X (.Constant (.str i) j pos) (tD F (dC (.str i))) := d_const pe_str fun _ _ => rfl

/-! ### operators -/
abbrev G2 := D → D → (D → Prop) → Prop
structure OpD (F : FP) (r : R2) (g : G2) : Prop where
  ok : ∀ N H x y dx dy Qd (Q : VK), NOk F N H → Rep F.K F.Z N H dx x → Rep F.K F.Z N H dy y → g dx dy Qd → (∀ v H' d, Ext F.Z H H' → Rep F.K F.Z N H' d v → Qd d → Q v H') → r x y H Q
def dBin (g : G2) (Ta Tb : TDE) : TDE := fun ξ env Q => Ta ξ env fun x => Tb ξ env fun y => g x y Q
theorem tOp_imp {r : R2} {g : G2} (hg : OpD F r g) : ∀ σ H Q, tD F (dBin g Ta Tb) σ H Q → tOp r (tD F Ta) (tD F Tb) σ H Q := by
  rintro σ H Q ⟨N, env, Qd, f, hT, k⟩
  refine ⟨N, env, _, f, hT, fun x H1 dx e1 rx q1 => ?_⟩
  refine ⟨N, env, _, f.ext' e1, q1, fun y H2 dy e2 ry q2 => ?_⟩
  exact hg.ok N H2 x y dx dy _ _ ((f.ext' e1).ext' e2).n (rx.ext e2 f.n.z) ry q2 fun v H3 d e3 r3 q3 => k v H3 d ((e1.trans e2).trans e3) r3 q3
theorem d_op {op : Operator} {r : R2} {g : G2} (ho : OpR X (binaryOp op) r) (hg : OpD F r g) (ha : PE X a (tD F Ta)) (hb : PE X b (tD F Tb)) : PE X (.BinOp a op b pos) (tD F (dBin g Ta Tb)) :=
  PE.imp (pe_op ho ha hb) (tOp_imp hg)
theorem d_cmp {op : CmpOp} {r : R2} {g : G2} (ho : OpR X (compareOp op) r) (hg : OpD F r g) (ha : PE X a (tD F Ta)) (hb : PE X b (tD F Tb)) (hm : behindInMarks op b = false) : PE X (.Compare a [op] [b] pos) (tD F (dBin g Ta Tb)) :=
  PE.imp (pe_cmpR ho ha hb hm) (tOp_imp hg)
/-- an expression that tells True or False, as a test -/
def dTest (T : TDE) : TDT := fun ξ env Q => T ξ env fun d => match d with
  | .bl b => Q b
  | _ => False
theorem bl_of {d : D} {Q : Bool → Prop} (h : match d with | .bl b => Q b | _ => False) : ∃ b, d = .bl b ∧ Q b := by
  cases d <;> first | exact ⟨_, rfl, h⟩ | exact h.elim
theorem tTest_imp {T : TDE} {t : TE} (hi : ∀ σ H Q, tD F T σ H Q → t σ H Q) : ∀ σ H Q, tDT F (dTest T) σ H Q → t σ H fun x H' => ∃ k, x = .bl k ∧ Q k H' := by
  rintro σ H Q ⟨N, env, Qd, f, hT, k⟩
  refine hi σ H _ ⟨N, env, _, f, hT, fun v H' d e r q => ?_⟩
  obtain ⟨b, rfl, q⟩ := bl_of q
  exact ⟨b, r, k b H' e q⟩
theorem dt_cmp {op : CmpOp} {r : R2} {g : G2} (ho : OpR X (compareOp op) r) (hg : OpD F r g) (ha : PE X a (tD F Ta)) (hb : PE X b (tD F Tb)) (hm : behindInMarks op b = false) : PT X (.Compare a [op] [b] pos) (tDT F (dTest (dBin g Ta Tb))) :=
  PT.imp (pt_cmpR ho ha hb hm) (tTest_imp (tOp_imp hg))
theorem dt_val (h : PE X e (tD F Ta)) (he : ∀ whole, isTrue e X.env whole = (do let v ← whole; standAt e.pos; holding [v] (truthy v)) := by intro _; rfl) : PT X e (tDT F (dTest Ta)) :=
  PT.imp (pt_val h he) (tTest_imp fun _ _ _ h => h)
/-- an int, a tuple, .. as a test -/
def truD : D → Option Bool
  | .non => some false
  | .bl b => some b
  | .int i => some (i != 0)
  | .tup ds => some (!ds.isEmpty)
  | .lst ds => some (!ds.isEmpty)
  | _ => none
def dTruth (T : TDE) : TDT := fun ξ env Q => T ξ env fun d => match truD d with
  | some b => Q b
  | none => False

/-! ### and, or, not; if -/
def dtAnd (t u : TDT) : TDT := fun ξ env Q => t ξ env fun c => if c = true then u ξ env Q else Q false
def dtOr (t u : TDT) : TDT := fun ξ env Q => t ξ env fun c => if c = true then Q true else u ξ env Q
def dtNot (t : TDT) : TDT := fun ξ env Q => t ξ env fun c => Q (!c)
variable {tA tB' : TDT} {rest : List Expr}
theorem dw_and1 (ha : PT X a (tDT F tA)) : PW X (.BoolOp .And [a] pos) (tDT F tA) := pw_and1 ha
theorem dw_or1 (ha : PT X a (tDT F tA)) : PW X (.BoolOp .Or [a] pos) (tDT F tA) := pw_or1 ha
theorem dw_and (ha : PT X a (tDT F tA)) (hb : PW X (.BoolOp .And (b :: rest) pos) (tDT F tB')) : PW X (.BoolOp .And (a :: b :: rest) pos) (tDT F (dtAnd tA tB')) := PW.imp (pw_and ha hb) (by
  rintro σ H Q ⟨N, env, Qd, f, hT, k⟩
  refine ⟨N, env, _, f, hT, fun c H1 e1 q1 => ?_⟩
  by_cases hc : c = true
  · rw [if_pos hc] at q1 ⊢
    exact ⟨N, env, _, f.ext' e1, q1, fun b H2 e2 q2 => k b H2 (e1.trans e2) q2⟩
  · rw [if_neg hc] at q1 ⊢
    exact k _ _ e1 q1)
theorem dw_or (ha : PT X a (tDT F tA)) (hb : PW X (.BoolOp .Or (b :: rest) pos) (tDT F tB')) : PW X (.BoolOp .Or (a :: b :: rest) pos) (tDT F (dtOr tA tB')) := PW.imp (pw_or ha hb) (by
  rintro σ H Q ⟨N, env, Qd, f, hT, k⟩
  refine ⟨N, env, _, f, hT, fun c H1 e1 q1 => ?_⟩
  by_cases hc : c = true
  · rw [if_pos hc] at q1 ⊢
    exact k _ _ e1 q1
  · rw [if_neg hc] at q1 ⊢
    exact ⟨N, env, _, f.ext' e1, q1, fun b H2 e2 q2 => k b H2 (e1.trans e2) q2⟩)
theorem dt_not (ha : PT X a (tDT F tA)) : PT X (.UnaryOp .Not a pos) (tDT F (dtNot tA)) := PT.imp (pt_not ha) (by
  rintro σ H Q ⟨N, env, Qd, f, hT, k⟩
  exact ⟨N, env, _, f, hT, fun c H1 e1 q1 => k _ H1 e1 q1⟩)
def dAnd (Ta Tb : TDE) : TDE := fun ξ env Q => dTest Ta ξ env fun c => if c = true then Tb ξ env Q else Q (.bl false)
def dOr (Ta Tb : TDE) : TDE := fun ξ env Q => dTest Ta ξ env fun c => if c = true then Q (.bl true) else Tb ξ env Q
def dNot (Ta : TDE) : TDE := fun ξ env Q => dTest Ta ξ env fun c => Q (.bl (!c))
theorem d_one {op} (h : PE X a (tD F Ta)) : PE X (.BoolOp op [a] pos) (tD F Ta) := pe_one h
theorem d_and (ha : PE X a (tD F Ta)) (hb : PE X (.BoolOp .And (b :: rest) pos) (tD F Tb)) : PE X (.BoolOp .And (a :: b :: rest) pos) (tD F (dAnd Ta Tb)) := PE.imp (pe_and ha hb) (by
  rintro σ H Q ⟨N, env, Qd, f, hT, k⟩
  refine ⟨N, env, _, f, hT, fun x H1 dx e1 r1 q1 => ?_⟩
  obtain ⟨c, rfl, q9⟩ := bl_of q1
  refine ⟨c, r1, ?_⟩
  by_cases hc : c = true
  · rw [if_pos hc] at q9 ⊢
    exact ⟨N, env, _, f.ext' e1, q9, fun v H2 d e2 r2 q2 => k v H2 d (e1.trans e2) r2 q2⟩
  · rw [if_neg hc] at q9 ⊢
    exact k _ _ _ e1 rep_bl q9)
theorem d_or (ha : PE X a (tD F Ta)) (hb : PE X (.BoolOp .Or (b :: rest) pos) (tD F Tb)) : PE X (.BoolOp .Or (a :: b :: rest) pos) (tD F (dOr Ta Tb)) := PE.imp (pe_or ha hb) (by
  rintro σ H Q ⟨N, env, Qd, f, hT, k⟩
  refine ⟨N, env, _, f, hT, fun x H1 dx e1 r1 q1 => ?_⟩
  obtain ⟨c, rfl, q9⟩ := bl_of q1
  refine ⟨c, r1, ?_⟩
  by_cases hc : c = true
  · rw [if_pos hc] at q9 ⊢
    exact k _ _ _ e1 rep_bl q9
  · rw [if_neg hc] at q9 ⊢
    exact ⟨N, env, _, f.ext' e1, q9, fun v H2 d e2 r2 q2 => k v H2 d (e1.trans e2) r2 q2⟩)
theorem d_not (ha : PE X a (tD F Ta)) : PE X (.UnaryOp .Not a pos) (tD F (dNot Ta)) := PE.imp (pe_not ha) (by
  rintro σ H Q ⟨N, env, Qd, f, hT, k⟩
  refine ⟨N, env, _, f, hT, fun x H1 dx e1 r1 q1 => ?_⟩
  obtain ⟨c, rfl, q9⟩ := bl_of q1
  exact ⟨c, r1, k _ _ _ e1 rep_bl q9⟩)
def dIf (t : TDT) (Ta Tb : TDE) : TDE := fun ξ env Q => t ξ env fun c => if c = true then Ta ξ env Q else Tb ξ env Q
theorem d_if (hc : PT X c (tDT F tA)) (ha : PE X a (tD F Ta)) (hb : PE X b (tD F Tb)) : PE X (.IfExp c a b pos) (tD F (dIf tA Ta Tb)) := PE.imp (pe_ifExp hc ha hb) (by
  rintro σ H Q ⟨N, env, Qd, f, hT, k⟩
  refine ⟨N, env, _, f, hT, fun c H1 e1 q1 => ?_⟩
  by_cases hc : c = true
  · rw [if_pos hc] at q1 ⊢
    exact ⟨N, env, _, f.ext' e1, q1, fun v H2 d e2 r2 q2 => k v H2 d (e1.trans e2) r2 q2⟩
  · rw [if_neg hc] at q1 ⊢
    exact ⟨N, env, _, f.ext' e1, q1, fun v H2 d e2 r2 q2 => k v H2 d (e1.trans e2) r2 q2⟩)

/-! ### unary -/
abbrev G1 := D → (D → Prop) → Prop
def dUn (g : G1) (Ta : TDE) : TDE := fun ξ env Q => Ta ξ env fun x => g x Q
def gNeg : G1 := fun x Q => match x with
  | .int i => Q (.int (-i))
  | _ => False
theorem d_neg (ha : PE X a (tD F Ta)) : PE X (.UnaryOp .USub a pos) (tD F (dUn gNeg Ta)) := PE.imp (pe_un un_neg ha) (by
  rintro σ H Q ⟨N, env, Qd, f, hT, k⟩
  refine ⟨N, env, _, f, hT, fun x H1 dx e1 r1 q1 => ?_⟩
  cases dx <;> first | exact q1.elim | exact ⟨_, r1, k _ _ _ e1 rep_int q1⟩)

/-! ### the operators of ints -/
def gI (C : Int → Int → Prop) (g : Int → Int → D) : G2 := fun x y Q => match x, y with
  | .int i, .int j => C i j ∧ Q (g i j)
  | _, _ => False
def gI0 (g : Int → Int → D) : G2 := fun x y Q => match x, y with
  | .int i, .int j => Q (g i j)
  | _, _ => False
theorem gI_of {C : Int → Int → Prop} {g : Int → Int → D} {x y : D} {Q : D → Prop} (h : gI C g x y Q) : ∃ i j, x = .int i ∧ y = .int j ∧ C i j ∧ Q (g i j) := by
  unfold gI at h
  split at h
  · exact ⟨_, _, rfl, rfl, h⟩
  · exact h.elim
theorem gI0_of {g : Int → Int → D} {x y : D} {Q : D → Prop} (h : gI0 g x y Q) : ∃ i j, x = .int i ∧ y = .int j ∧ Q (g i j) := by
  unfold gI0 at h
  split at h
  · exact ⟨_, _, rfl, rfl, h⟩
  · exact h.elim
theorem opd_I {C : Int → Int → Prop} {g : Int → Int → D} {gv : Int → Int → V} (hg : ∀ i j N H, Rep F.K F.Z N H (g i j) (gv i j)) : OpD F (rI C gv) (gI C g) := ⟨by
  intro N H x y dx dy Qd Q n rx ry h k
  obtain ⟨i, j, rfl, rfl, c, q⟩ := gI_of h
  exact ⟨i, j, rx, ry, c, k _ _ _ Ext.refl (hg i j N H) q⟩⟩
theorem opd_I0 {g : Int → Int → D} {gv : Int → Int → V} (hg : ∀ i j N H, Rep F.K F.Z N H (g i j) (gv i j)) : OpD F (rI0 gv) (gI0 g) := ⟨by
  intro N H x y dx dy Qd Q n rx ry h k
  obtain ⟨i, j, rfl, rfl, q⟩ := gI0_of h
  exact ⟨i, j, rx, ry, k _ _ _ Ext.refl (hg i j N H) q⟩⟩
abbrev gAdd : G2 := gI0 fun i j => .int (i + j)
abbrev gSub : G2 := gI0 fun i j => .int (i - j)
abbrev gMul : G2 := gI CMulW fun i j => .int (i * j)
abbrev gDiv : G2 := gI CDivW fun i j => .int (i / j)
abbrev gMod : G2 := gI (fun _ j => 0 < j) fun i j => .int (i % j)
abbrev gPow : G2 := gI CPow fun i j => .int (i ^ j.toNat)
abbrev gLt : G2 := gI0 fun i j => .bl (decide (i < j))
abbrev gLe : G2 := gI0 fun i j => .bl (decide (i ≤ j))
abbrev gGt : G2 := gI0 fun i j => .bl (decide (j < i))
abbrev gGe : G2 := gI0 fun i j => .bl (decide (j ≤ i))
theorem d_add (ha : PE X a (tD F Ta)) (hb : PE X b (tD F Tb)) : PE X (.BinOp a .Add b pos) (tD F (dBin gAdd Ta Tb)) := d_op op_add (opd_I0 fun _ _ _ _ => rfl) ha hb
theorem d_sub (ha : PE X a (tD F Ta)) (hb : PE X b (tD F Tb)) : PE X (.BinOp a .Sub b pos) (tD F (dBin gSub Ta Tb)) := d_op op_sub (opd_I0 fun _ _ _ _ => rfl) ha hb
theorem d_mul (ha : PE X a (tD F Ta)) (hb : PE X b (tD F Tb)) : PE X (.BinOp a .Mult b pos) (tD F (dBin gMul Ta Tb)) := d_op op_mulW (opd_I fun _ _ _ _ => rfl) ha hb
theorem d_div (ha : PE X a (tD F Ta)) (hb : PE X b (tD F Tb)) : PE X (.BinOp a .FloorDiv b pos) (tD F (dBin gDiv Ta Tb)) := d_op op_fdivW (opd_I fun _ _ _ _ => rfl) ha hb
theorem d_mod (ha : PE X a (tD F Ta)) (hb : PE X b (tD F Tb)) : PE X (.BinOp a .Mod b pos) (tD F (dBin gMod Ta Tb)) := d_op op_mod (opd_I fun _ _ _ _ => rfl) ha hb
theorem d_pow (ha : PE X a (tD F Ta)) (hb : PE X b (tD F Tb)) : PE X (.BinOp a .Pow b pos) (tD F (dBin gPow Ta Tb)) := d_op op_pow (opd_I fun _ _ _ _ => rfl) ha hb
theorem d_lt (ha : PE X a (tD F Ta)) (hb : PE X b (tD F Tb)) : PE X (.Compare a [.Lt] [b] pos) (tD F (dBin gLt Ta Tb)) := d_cmp op_lt (opd_I0 fun _ _ _ _ => rfl) ha hb (nomark _)
theorem d_le (ha : PE X a (tD F Ta)) (hb : PE X b (tD F Tb)) : PE X (.Compare a [.LtE] [b] pos) (tD F (dBin gLe Ta Tb)) := d_cmp op_le (opd_I0 fun _ _ _ _ => rfl) ha hb (nomark _)
theorem d_gt (ha : PE X a (tD F Ta)) (hb : PE X b (tD F Tb)) : PE X (.Compare a [.Gt] [b] pos) (tD F (dBin gGt Ta Tb)) := d_cmp op_gt (opd_I0 fun _ _ _ _ => rfl) ha hb (nomark _)
theorem d_ge (ha : PE X a (tD F Ta)) (hb : PE X b (tD F Tb)) : PE X (.Compare a [.GtE] [b] pos) (tD F (dBin gGe Ta Tb)) := d_cmp op_ge (opd_I0 fun _ _ _ _ => rfl) ha hb (nomark _)
theorem dt_lt (ha : PE X a (tD F Ta)) (hb : PE X b (tD F Tb)) : PT X (.Compare a [.Lt] [b] pos) (tDT F (dTest (dBin gLt Ta Tb))) := dt_cmp op_lt (opd_I0 fun _ _ _ _ => rfl) ha hb (nomark _)
theorem dt_le (ha : PE X a (tD F Ta)) (hb : PE X b (tD F Tb)) : PT X (.Compare a [.LtE] [b] pos) (tDT F (dTest (dBin gLe Ta Tb))) := dt_cmp op_le (opd_I0 fun _ _ _ _ => rfl) ha hb (nomark _)
theorem dt_gt (ha : PE X a (tD F Ta)) (hb : PE X b (tD F Tb)) : PT X (.Compare a [.Gt] [b] pos) (tDT F (dTest (dBin gGt Ta Tb))) := dt_cmp op_gt (opd_I0 fun _ _ _ _ => rfl) ha hb (nomark _)
theorem dt_ge (ha : PE X a (tD F Ta)) (hb : PE X b (tD F Tb)) : PT X (.Compare a [.GtE] [b] pos) (tDT F (dTest (dBin gGe Ta Tb))) := dt_cmp op_ge (opd_I0 fun _ _ _ _ => rfl) ha hb (nomark _)

/-! ### == -/
mutual
/-- the library's data -/
def toP : D → PyData
  | .non => .none
  | .bl b => .bool b
  | .int i => .int i
  | .str x => .str x
  | .tup ds => .tuple (toPs ds)
  | .lst ds => .list (toPs ds)
  | .dct ks ds => .dict (toPk ks ds)
  | .deck => .none
  | .ty _ => .none
  | .kt ds => .tuple (toPs ds)
def toPs : List D → List PyData
  | [] => []
  | d :: ds => toP d :: toPs ds
def toPk : List Key → List D → List (PyData × PyData)
  | k :: ks, d :: ds => ((match k with | .inl i => PyData.int i | .inr x => PyData.str x), toP d) :: toPk ks ds
  | _, _ => []
end
mutual
def plain : D → Bool
  | .tup ds => plains ds
  | .lst ds => plains ds
  | .dct _ _ => false
  | .deck => false
  | .ty _ => false
  | .kt ds => plains ds
  | _ => true
def plains : List D → Bool
  | [] => true
  | d :: ds => plain d && plains ds
end
section
variable {K : PySem.W.Frag} {Z : Zn} {N : Addr → Prop} {H : Hp}
theorem sqt_of {a : Addr} {vs : List V} (h : (¬ N a ∧ H a = some (.tup vs)) ∨ SqT K NK a vs) : SqT K H a vs := by
  rcases h with ⟨_, h⟩ | h
  · exact .inl (.inl h)
  · rcases h with (h | ⟨o, h⟩) | h
    · cases h
    · cases h
    · exact .inr h
mutual
theorem Rep.dp : ∀ (d : D) (v : V), plain d = true → Rep K Z N H d v → Dp K H v (toP d)
  | .non, _, _, h => by rw [show _ = V.non from h]; exact .non
  | .bl b, _, _, h => by rw [show _ = V.bl b from h]; exact .bl b
  | .int i, _, _, h => by rw [show _ = V.int i from h]; exact .int i
  | .str x, _, _, h => by rw [show _ = V.str x from h]; exact .str x
  | .tup ds, _, p, h => by
    obtain ⟨a, vs, rfl, r, q⟩ := h
    exact .tup (sqt_of r) (Reps.dp ds vs p q)
  | .lst ds, _, p, h => by
    obtain ⟨a, vs, rfl, _, r, q⟩ := h
    exact .lst (SqL.of r) (Reps.dp ds vs p q)
  | .dct _ _, _, p, _ => by cases p
  | .deck, _, p, _ => by cases p
  | .ty _, _, p, _ => by cases p
  | .kt ds, _, p, h => by
    obtain ⟨a, vs, o, rfl, _, r, _, q⟩ := h
    exact .tup (.inl (.inr ⟨o, r⟩)) (Reps.dp ds vs p q)
theorem Reps.dp : ∀ (ds : List D) (vs : List V), plains ds = true → Reps K Z N H ds vs → DpAll K H vs (toPs ds)
  | [], _, _, h => by cases h; exact .nil
  | d :: ds, _, p, h => by
    obtain ⟨v, r, rfl, h1, h2⟩ := h
    obtain ⟨p1, p2⟩ := Bool.and_eq_true_iff.mp p
    exact .cons (Rep.dp d v p1 h1) (Reps.dp ds r p2 h2)
end
end
/-- data that can be compared -/
def eqOk (d : D) : Bool := plain d && SeqAt.shaped (toP d)
def gEq : G2 := fun x y Q => match x, y with
  | .int i, .int j => Q (.bl (decide (i = j)))
  | .str i, .str j => Q (.bl (decide (i = j)))
  | x, y => (eqOk x = true ∧ eqOk y = true) ∧ Q (.bl (PyData.eqv (toP x) (toP y)))
def gNe : G2 := fun x y Q => match x, y with
  | .int i, .int j => Q (.bl (!decide (i = j)))
  | .str i, .str j => Q (.bl (!decide (i = j)))
  | x, y => (eqOk x = true ∧ eqOk y = true) ∧ Q (.bl (!PyData.eqv (toP x) (toP y)))
theorem opd_eq : OpD F (fun x y H Q => rEqD F.K x y H Q ∨ rEq x y H Q) gEq := ⟨by
  intro N H x y dx dy Qd Q n rx ry h k
  unfold gEq at h
  split at h
  · rename_i i j
    cases (show x = .int i from rx)
    cases (show y = .int j from ry)
    refine .inr ⟨rfl, k _ _ _ Ext.refl rep_bl ?_⟩
    rw [dec_int, Bool.beq_eq_decide_eq]
    exact h
  · rename_i i j
    cases (show x = .str i from rx)
    cases (show y = .str j from ry)
    refine .inr ⟨rfl, k _ _ _ Ext.refl rep_bl ?_⟩
    rw [dec_str, Bool.beq_eq_decide_eq]
    exact h
  · obtain ⟨⟨h1, h2⟩, q⟩ := h
    obtain ⟨p1, s1⟩ := Bool.and_eq_true_iff.mp h1
    obtain ⟨p2, s2⟩ := Bool.and_eq_true_iff.mp h2
    exact .inl ⟨_, _, Rep.dp dx x p1 rx, Rep.dp dy y p2 ry, s1, s2, k _ _ _ Ext.refl rep_bl q⟩⟩
theorem opd_ne : OpD F (fun x y H Q => rNeD F.K x y H Q ∨ rNe x y H Q) gNe := ⟨by
  intro N H x y dx dy Qd Q n rx ry h k
  unfold gNe at h
  split at h
  · rename_i i j
    cases (show x = .int i from rx)
    cases (show y = .int j from ry)
    refine .inr ⟨rfl, k _ _ _ Ext.refl rep_bl ?_⟩
    rw [dec_int, Bool.beq_eq_decide_eq]
    exact h
  · rename_i i j
    cases (show x = .str i from rx)
    cases (show y = .str j from ry)
    refine .inr ⟨rfl, k _ _ _ Ext.refl rep_bl ?_⟩
    rw [dec_str, Bool.beq_eq_decide_eq]
    exact h
  · obtain ⟨⟨h1, h2⟩, q⟩ := h
    obtain ⟨p1, s1⟩ := Bool.and_eq_true_iff.mp h1
    obtain ⟨p2, s2⟩ := Bool.and_eq_true_iff.mp h2
    exact .inl ⟨_, _, Rep.dp dx x p1 rx, Rep.dp dy y p2 ry, s1, s2, k _ _ _ Ext.refl rep_bl q⟩⟩
theorem d_eq (hK : F.K = X.K) (hu : X.A.units + 64 < cLine) (ha : PE X a (tD F Ta)) (hb : PE X b (tD F Tb)) : PE X (.Compare a [.Eq] [b] pos) (tD F (dBin gEq Ta Tb)) := by
  have o := opd_eq (F := F)
  rw [hK] at o
  exact d_cmp ((op_eqD hu).or op_eq) o ha hb (nomark _)
theorem d_ne (hK : F.K = X.K) (hu : X.A.units + 64 < cLine) (ha : PE X a (tD F Ta)) (hb : PE X b (tD F Tb)) : PE X (.Compare a [.NotEq] [b] pos) (tD F (dBin gNe Ta Tb)) := by
  have o := opd_ne (F := F)
  rw [hK] at o
  exact d_cmp ((op_neD hu).or op_ne) o ha hb (nomark _)
theorem dt_eq (hK : F.K = X.K) (hu : X.A.units + 64 < cLine) (ha : PE X a (tD F Ta)) (hb : PE X b (tD F Tb)) : PT X (.Compare a [.Eq] [b] pos) (tDT F (dTest (dBin gEq Ta Tb))) := by
  have o := opd_eq (F := F)
  rw [hK] at o
  exact dt_cmp ((op_eqD hu).or op_eq) o ha hb (nomark _)
theorem dt_ne (hK : F.K = X.K) (hu : X.A.units + 64 < cLine) (ha : PE X a (tD F Ta)) (hb : PE X b (tD F Tb)) : PT X (.Compare a [.NotEq] [b] pos) (tDT F (dTest (dBin gNe Ta Tb))) := by
  have o := opd_ne (F := F)
  rw [hK] at o
  exact dt_cmp ((op_neD hu).or op_ne) o ha hb (nomark _)

/-! ### argument lists, displays -/
def dNil : TDA := fun _ _ Q => Q []
def dCons (Ta : TDE) (Tr : TDA) : TDA := fun ξ env Q => Ta ξ env fun x => Tr ξ env fun xs => Q (x :: xs)
theorem da_nil : PA X [] (tDA F dNil) := PA.imp pa_nil (by
  rintro σ H Q ⟨N, env, Qd, f, hT, k⟩
  exact k [] H [] Ext.refl rfl hT)
theorem tCons_imp {Tr : TDA} : ∀ σ H Q, tDA F (dCons Ta Tr) σ H Q → tCons (tD F Ta) (tDA F Tr) σ H Q := by
  rintro σ H Q ⟨N, env, Qd, f, hT, k⟩
  refine ⟨N, env, _, f, hT, fun x H1 dx e1 r1 q1 => ?_⟩
  exact ⟨N, env, _, f.ext' e1, q1, fun xs H2 ds e2 r2 q2 => k _ H2 (dx :: ds) (e1.trans e2) ⟨x, xs, rfl, r1.ext e2 f.n.z, r2⟩ q2⟩
theorem da_cons {Tr : TDA} (ha : PE X e (tD F Ta)) (hr : PA X es (tDA F Tr)) (hs : starEach (e :: es) X.env = (false, eval e X.env) :: starEach es X.env := by rfl) : PA X (e :: es) (tDA F (dCons Ta Tr)) :=
  PA.imp (pa_cons ha hr hs) tCons_imp
def dTup (T : TDA) : TDE := fun ξ env Q => T ξ env fun ds => ds.length ≤ sizeLine ∧ Q (.tup ds)
def dLst (T : TDA) : TDE := fun ξ env Q => T ξ env fun ds => ds.length ≤ sizeLine ∧ Q (.lst ds)
theorem rep_newT {N : Addr → Prop} {H : Hp} {p : Addr} {vs : List V} {ds : List D} (n : NOk F N H) (hp : H p = none) (r : Reps F.K F.Z N H ds vs) : Rep F.K F.Z N (upd H p (.tup vs)) (.tup ds) (.ref p) :=
  ⟨p, vs, rfl, .inl ⟨n.fresh hp, upd_same⟩, r.ext (n.lay hp) n.z⟩
theorem rep_newL {N : Addr → Prop} {H : Hp} {p : Addr} {vs : List V} {ds : List D} (n : NOk F N H) (hp : H p = none) (r : Reps F.K F.Z N H ds vs) : Rep F.K F.Z N (upd H p (.lst vs)) (.lst ds) (.ref p) :=
  ⟨p, vs, rfl, n.fresh hp, upd_same, r.ext (n.lay hp) n.z⟩
theorem d_tup {x1 : _} (h : PA X es (tDA F Tas)) : PE X (.Tuple es x1 pos) (tD F (dTup Tas)) := PE.imp (pe_tup h) (by
  rintro σ H Q ⟨N, env, Qd, f, hT, k⟩
  refine ⟨N, env, _, f, hT, fun vs H1 ds e1 r1 q1 => ⟨by rw [← r1.length]; exact q1.1, fun p hp => ?_⟩⟩
  have n := (f.ext' e1).n
  exact k _ _ (.tup ds) (e1.trans (n.lay hp)) (rep_newT n hp r1) q1.2)
theorem d_lst (h : PA X es (tDA F Tas)) : PE X (.List es pos) (tD F (dLst Tas)) := PE.imp (pe_lst h) (by
  rintro σ H Q ⟨N, env, Qd, f, hT, k⟩
  refine ⟨N, env, _, f, hT, fun vs H1 ds e1 r1 q1 => ⟨by rw [← r1.length]; exact q1.1, fun p hp => ?_⟩⟩
  have n := (f.ext' e1).n
  exact k _ _ (.lst ds) (e1.trans (n.lay hp)) (rep_newL n hp r1) q1.2)

/-! ### subscripts -/
def gIx : G2 := fun x y Q => match x, y with
  | .tup ds, .int i => match atI ds i with
    | some d => Q d
    | none => False
  | .lst ds, .int i => match atI ds i with
    | some d => Q d
    | none => False
  | _, _ => False
theorem atI_rep {N : Addr → Prop} {H : Hp} {ds : List D} {vs : List V} {i : Int} {d : D} (r : Reps F.K F.Z N H ds vs) (h : atI ds i = some d) : ∃ v, atI vs i = some v ∧ Rep F.K F.Z N H d v := by
  unfold atI at h ⊢
  rw [← r.length]
  cases q : ixN ds.length i with
  | none => rw [q] at h; cases h
  | some j =>
    rw [q] at h
    obtain ⟨v, h1, h2⟩ := r.get (i := j) h
    exact ⟨v, h1, h2⟩
theorem opd_ix : OpD F (rIx F.K) gIx := ⟨by
  intro N H x y dx dy Qd Q n rx ry h k
  unfold gIx at h
  split at h
  · rename_i ds i
    split at h
    · rename_i d hd
      obtain ⟨a, vs, rfl, r, q⟩ := rx
      obtain ⟨v, h1, h2⟩ := atI_rep q hd
      exact .inr (.inl ⟨a, vs, i, v, rfl, ry, sqt_of r, h1, k _ _ _ Ext.refl h2 h⟩)
    · exact h.elim
  · rename_i ds i
    split at h
    · rename_i d hd
      obtain ⟨a, vs, rfl, _, r, q⟩ := rx
      obtain ⟨v, h1, h2⟩ := atI_rep q hd
      exact .inl ⟨a, vs, i, v, rfl, ry, SqL.of r, h1, k _ _ _ Ext.refl h2 h⟩
    · exact h.elim
  · exact h.elim⟩
theorem d_ix (hK : F.K = X.K) (ha : PE X a (tD F Ta)) (hb : PE X b (tD F Tb)) (hs : PlainIx b) : PE X (.Subscript a b pos) (tD F (dBin gIx Ta Tb)) := by
  have o := opd_ix (F := F)
  rw [hK] at o
  exact PE.imp (pe_ix ix_seq ha hb hs) (tOp_imp o)

/-! ### built-in functions -/
abbrev GA := List D → (D → Prop) → Prop
structure CallD (F : FP) (r : List V → Hp → VK → Prop) (g : GA) : Prop where
  ok : ∀ N H vs ds Qd (Q : VK), NOk F N H → Reps F.K F.Z N H ds vs → g ds Qd → (∀ v H' d, Ext F.Z H H' → Rep F.K F.Z N H' d v → Qd d → Q v H') → r vs H Q
def dCB (g : GA) (T : TDA) : TDE := fun ξ env Q => T ξ env fun ds => g ds Q
theorem tCB_imp {r : List V → Hp → VK → Prop} {g : GA} (hg : CallD F r g) : ∀ σ H Q, tD F (dCB g Tas) σ H Q → tCB r (tDA F Tas) σ H Q := by
  rintro σ H Q ⟨N, env, Qd, f, hT, k⟩
  refine ⟨N, env, _, f, hT, fun vs H1 ds e1 r1 q1 => ?_⟩
  exact hg.ok N H1 vs ds _ _ (f.ext' e1).n r1 q1 fun v H2 d e2 r2 q2 => k v H2 d (e1.trans e2) r2 q2
variable {x : Str} {p : Pos} {bid T : String} {r : List V → Hp → VK → Prop} {g : GA}
theorem d_callB (hg' : CallD F r g) (hc : CallR X (.builtin bid) r) (hg : Gl X x) (hm : X.mg x = none) (hv : bootBuiltins x = some (.builtin bid)) (ha : PA X (e :: es) (tDA F Tas)) (hn : x ≠ "__name__" := by decide) (hdb : (x == ("__debug__" : Str)) = false := by decide)
    (he : starEach (e :: es) X.env = (false, eval e X.env) :: starEach es X.env := by rfl) (hpl : (backTo pos (starEach es X.env)).any (·.1) = false := by rfl) : PE X (.Call (.Name x p) (e :: es) [] pos) (tD F (dCB g Tas)) :=
  PE.imp (pe_callB hc hg hm hv ha hn hdb he hpl) (tCB_imp hg')
theorem d_callTy (hg' : CallD F r g) (hc : CallR X (.type T) r) (hg : Gl X x) (hm : X.mg x = none) (hv : bootBuiltins x = some (.type T)) (ha : PA X (e :: es) (tDA F Tas)) (hn : x ≠ "__name__" := by decide) (hdb : (x == ("__debug__" : Str)) = false := by decide)
    (he : starEach (e :: es) X.env = (false, eval e X.env) :: starEach es X.env := by rfl) (hpl : (backTo pos (starEach es X.env)).any (·.1) = false := by rfl) : PE X (.Call (.Name x p) (e :: es) [] pos) (tD F (dCB g Tas)) :=
  PE.imp (pe_callTy hc hg hm hv ha hn hdb he hpl) (tCB_imp hg')
def gAbs : GA := fun xs Q => match xs with
  | [.int i] => Q (.int (if i < 0 then -i else i))
  | _ => False
theorem cd_abs : CallD F (fun xs H Q => ∃ i, xs = [.int i] ∧ Q (.int (if i < 0 then -i else i)) H) gAbs := ⟨by
  intro N H vs ds Qd Q n r h k
  unfold gAbs at h
  split at h
  · obtain ⟨v, r, rfl, h1, h2⟩ := r
    cases h2
    exact ⟨_, by rw [show v = _ from h1], k _ _ _ Ext.refl rep_int h⟩
  · exact h.elim⟩
def gLen : GA := fun xs Q => match xs with
  | [.tup ds] => Q (.int ds.length)
  | [.lst ds] => Q (.int ds.length)
  | _ => False
theorem cd_len : CallD F (fun xs H Q => ∃ p ys, xs = [.ref p] ∧ (SqL F.K H p ys ∨ SqT F.K H p ys) ∧ Q (.int ys.length) H) gLen := ⟨by
  intro N H vs ds Qd Q n r h k
  unfold gLen at h
  split at h
  · obtain ⟨v, r, rfl, h1, h2⟩ := r
    cases h2
    obtain ⟨a, vs, rfl, r, q⟩ := h1
    exact ⟨a, vs, rfl, .inr (sqt_of r), k _ _ _ Ext.refl rep_int (by rw [← q.length]; exact h)⟩
  · obtain ⟨v, r, rfl, h1, h2⟩ := r
    cases h2
    obtain ⟨a, vs, rfl, _, r, q⟩ := h1
    exact ⟨a, vs, rfl, .inl (SqL.of r), k _ _ _ Ext.refl rep_int (by rw [← q.length]; exact h)⟩
  · exact h.elim⟩
/-- int(n), int(flag) -/
def gInt : GA := fun xs Q => match xs with
  | [.int i] => Q (.int i)
  | [.bl b] => Q (.int (if b then 1 else 0))
  | _ => False
theorem cd_int : CallD F (fun xs H Q => (∃ i, xs = [.int i] ∧ Q (.int i) H) ∨ ∃ k, xs = [.bl k] ∧ Q (.int (if k then 1 else 0)) H) gInt := ⟨by
  intro N H vs ds Qd Q n r h k
  unfold gInt at h
  split at h
  · obtain ⟨v, r, rfl, h1, h2⟩ := r
    cases h2
    exact .inl ⟨_, by rw [show v = _ from h1], k _ _ _ Ext.refl rep_int h⟩
  · obtain ⟨v, r, rfl, h1, h2⟩ := r
    cases h2
    exact .inr ⟨_, by rw [show v = _ from h1], k _ _ _ Ext.refl rep_int h⟩
  · exact h.elim⟩
/-- all([..]) -/
def blsOf : List D → Option (List Bool)
  | [] => some []
  | .bl b :: ds => (blsOf ds).map (b :: ·)
  | _ :: _ => none
theorem blsOf_eq : ∀ {ds : List D} {bs : List Bool}, blsOf ds = some bs → ds = bs.map D.bl
  | [], bs, h => by simp [blsOf] at h; subst h; rfl
  | d :: ds, bs, h => by
    cases d <;> first | (simp [blsOf] at h; done) | skip
    rename_i b
    simp only [blsOf, Option.map_eq_some_iff] at h
    obtain ⟨r, h1, h2⟩ := h
    rw [← h2, blsOf_eq h1]; rfl
def gAll : GA := fun xs Q => match xs with
  | [.lst ds] => match blsOf ds with
    | some bs => Q (.bl (bs.all id))
    | none => False
  | _ => False
def gAny : GA := fun xs Q => match xs with
  | [.lst ds] => match blsOf ds with
    | some bs => Q (.bl (bs.any id))
    | none => False
  | _ => False
theorem cd_all : CallD F (fun vs H Q => ∃ (a : Addr) (bs : List Bool), vs = [V.ref a] ∧ SqL F.K H a (bs.map V.bl) ∧ Q (.bl (bs.all id)) H) gAll := ⟨by
  intro N H vs ds Qd Q n r h k
  unfold gAll at h
  split at h
  · split at h
    · rename_i ds bs hb
      obtain ⟨v, r, rfl, h1, h2⟩ := r
      cases h2
      obtain ⟨a, vs, rfl, _, r, q⟩ := h1
      rw [blsOf_eq hb] at q
      rw [q.bls] at r
      exact ⟨a, bs, rfl, SqL.of r, k _ _ _ Ext.refl rep_bl h⟩
    · exact h.elim
  · exact h.elim⟩
/-- isinstance(x, T) of the built-in types that occur -/
inductive PyT where
  | int | bool | tuple | list | str | dict
def PyT.name : PyT → String
  | .int => "int"
  | .bool => "bool"
  | .tuple => "tuple"
  | .list => "list"
  | .str => "str"
  | .dict => "dict"
def isD : PyT → D → Bool
  | .int, .int _ => true
  | .int, .bl _ => true
  | .bool, .bl _ => true
  | .tuple, .tup _ => true
  | .tuple, .kt _ => true
  | .list, .lst _ => true
  | .dict, .dct _ _ => true
  | .str, .str _ => true
  | _, _ => false
def typed : D → Bool
  | .deck => false
  | .ty _ => false
  | _ => true
def gIsi (T : PyT) : GA := fun xs Q => match xs with
  | [x, _] => typed x = true ∧ Q (.bl (isD T x))
  | _ => False
theorem kt {K : PySem.W.Frag} {a b : String} {r r' : Bool} (h : kitB a b = some r) (e : r = r') : PySem.W.kitOne K (.type a) (.type b) = some r' := e ▸ kit_ty h
theorem kt_non : ∀ T : PyT, kitB "NoneType" T.name = some false := fun T => by cases T <;> decide +kernel
theorem kt_str : ∀ T : PyT, kitB "str" T.name = some (isD T (.str Str.empty)) := fun T => by cases T <;> decide +kernel
theorem kt_bl : ∀ T : PyT, kitB "bool" T.name = some (isD T (.bl true)) := fun T => by cases T <;> decide +kernel
theorem kt_int : ∀ T : PyT, kitB "int" T.name = some (isD T (.int 0)) := fun T => by cases T <;> decide +kernel
theorem kt_tup : ∀ T : PyT, kitB "tuple" T.name = some (isD T (.tup [])) := fun T => by cases T <;> decide +kernel
theorem kt_lst : ∀ T : PyT, kitB "list" T.name = some (isD T (.lst [])) := fun T => by cases T <;> decide +kernel
theorem kt_dct : ∀ T : PyT, kitB "dict" T.name = some (isD T (.dct [] [])) := fun T => by cases T <;> decide +kernel
theorem tyx_of {N : Addr → Prop} {H : Hp} : ∀ {d : D} {v : V}, typed d = true → Rep F.K F.Z N H d v → ∃ t, TyX F.K H v (.type t) ∧ ∀ T : PyT, PySem.W.kitOne F.K (.type t) (.type T.name) = some (isD T d)
  | .non, v, _, h => ⟨"NoneType", by rw [show v = _ from h]; exact .base .non, fun T => kt (kt_non T) (by cases T <;> rfl)⟩
  | .bl b, v, _, h => ⟨"bool", by rw [show v = _ from h]; exact .base (.bl b), fun T => kt (kt_bl T) (by cases T <;> rfl)⟩
  | .int b, v, _, h => ⟨"int", by rw [show v = _ from h]; exact .base (.int b), fun T => kt (kt_int T) (by cases T <;> rfl)⟩
  | .str b, v, _, h => ⟨"str", by rw [show v = _ from h]; exact .base (.str b), fun T => kt (kt_str T) (by cases T <;> rfl)⟩
  | .tup ds, v, _, h => by
    obtain ⟨a, vs, rfl, r, q⟩ := h
    refine ⟨"tuple", ?_, fun T => kt (kt_tup T) (by cases T <;> rfl)⟩
    rcases r with ⟨_, r⟩ | (r | ⟨_, r⟩) | ⟨o, _, _, h1, h2, _⟩
    · exact .base (.tup r)
    · cases r
    · cases r
    · exact .kTuple h1 h2
  | .lst ds, v, _, h => by
    obtain ⟨a, vs, rfl, _, r, q⟩ := h
    exact ⟨"list", .base (.lst r), fun T => kt (kt_lst T) (by cases T <;> rfl)⟩
  | .dct ks ds, v, _, h => by
    obtain ⟨a, vs, rfl, _, r, _, q⟩ := h
    exact ⟨"dict", .base (.dK r), fun T => kt (kt_dct T) (by cases T <;> rfl)⟩
  | .deck, _, p, _ => by cases p
  | .ty _, _, p, _ => by cases p
  | .kt ds, v, _, h => by
    obtain ⟨a, vs, o, rfl, _, r, _, q⟩ := h
    exact ⟨"tuple", .fTuple r, fun T => DL.kt (kt_tup T) (by cases T <;> rfl)⟩
theorem cd_isi (T : PyT) : CallD F (fun xs H Q => (∃ (x c : V), xs = [x, c] ∧ c = .ty T.name) → rIsi F.K xs H Q) (gIsi T) := ⟨by
  intro N H vs ds Qd Q n r h k
  rintro ⟨x, c, rfl, rfl⟩
  unfold gIsi at h
  split at h
  · rename_i dx dc
    obtain ⟨v, r1, e1, h1, h2⟩ := r
    cases e1
    obtain ⟨t, h3, h4⟩ := tyx_of h.1 h1
    exact ⟨x, _, _, _, _, rfl, .ty _, h3, h4 T, k _ _ _ Ext.refl rep_bl h.2⟩
  · exact h.elim⟩
end
end DL
set_option Elab.async false
set_option linter.all false
set_option maxRecDepth 100000
namespace DL
open PySem PySem.Spec L2
open PyProof.Rows hiding St

section
variable {X : Cx} {F : FP} {e a b c : Expr} {es : List Expr} {st : Stmt} {rest : List Stmt} {pos : Pos} {Ta Tb Tc : TDE} {Tas : TDA} {T U : TDS}

theorem EndsOk.of {N0 : Addr → Prop} {H0 : Hp} {N : Addr → Prop} {H : Hp} {Dd : DEnds} {De : Ends} (ok : EndsOk F N0 H0 Dd De) (v : Evo N0 H0 N H) : EndsOk F N H Dd De :=
  ⟨fun N' σ H' env f e => ok.nx N' σ H' env f (v.trans e), ok.rt, fun N' σ H' env f e => ok.bk N' σ H' env f (v.trans e), fun N' σ H' env f e => ok.ct N' σ H' env f (v.trans e)⟩

/-! ### blocks -/
def dNext : TDS := fun _ De env => De.nx env
def dSeq (t u : TDS) : TDS := fun ξ De env => t ξ { De with nx := u ξ De } env
theorem ds_nil : PSs X [] (sD F dNext) := PSs.imp pss_nil (by
  rintro De σ H ⟨N, env, Dd, f, hT, ok⟩
  exact ok.nx _ _ _ _ f .refl hT)
theorem ds_pass : PS X (.Pass pos) (sD F dNext) := PS.imp ps_pass (by
  rintro De σ H ⟨N, env, Dd, f, hT, ok⟩
  exact ok.nx _ _ _ _ f .refl hT)
theorem ds_cons (h1 : PS X st (sD F T)) (h2 : PSs X rest (sD F U)) : PSs X (st :: rest) (sD F (dSeq T U)) := PSs.imp (pss_cons h1 h2) (by
  rintro De σ H ⟨N, env, Dd, f, hT, ok⟩
  exact ⟨N, env, { Dd with nx := U F.ex Dd }, f, hT, ⟨fun N' σ' H' env' f' v hu => ⟨N', env', Dd, f', hu, ok.of v⟩, ok.rt, ok.bk, ok.ct⟩⟩)
theorem ds_one (h1 : PS X st (sD F T)) : PSs X [st] (sD F T) := pss_one h1
def dBreak : TDS := fun _ De env => De.bk env
def dCont : TDS := fun _ De env => De.ct env
theorem ds_break : PS X (.Break pos) (sD F dBreak) := PS.imp ps_break (by
  rintro De σ H ⟨N, env, Dd, f, hT, ok⟩
  exact ok.bk _ _ _ _ f .refl hT)
theorem ds_continue : PS X (.Continue pos) (sD F dCont) := PS.imp ps_continue (by
  rintro De σ H ⟨N, env, Dd, f, hT, ok⟩
  exact ok.ct _ _ _ _ f .refl hT)
def dDrop (T : TDE) : TDS := fun ξ De env => T ξ env fun _ => De.nx env
theorem ds_expr (he : PE X e (tD F Ta)) (hs : swapsWith e none pos.line X.env = pure false := by rfl) : PS X (.Expr e pos) (sD F (dDrop Ta)) := PS.imp (ps_expr he hs) (by
  rintro De σ H ⟨N, env, Dd, f, hT, ok⟩
  exact ⟨N, env, _, f, hT, fun v H' d e1 r q => ok.nx _ _ _ _ (f.ext' e1) (.of f.n e1) q⟩)
def dRet (T : TDE) : TDS := fun ξ De env => T ξ env De.rt
theorem ds_ret (he : PE X e (tD F Ta)) : PS X (.Return (some e) pos) (sD F (dRet Ta)) := PS.imp (ps_ret he) (by
  rintro De σ H ⟨N, env, Dd, f, hT, ok⟩
  exact ⟨N, env, _, f, hT, fun v H' d e1 r q => ok.rt v H' d (f.n.ext.trans e1) (r.less f.n.sub) q⟩)
def dRetN : TDS := fun _ De _ => De.rt .non
theorem ds_retN : PS X (.Return none pos) (sD F dRetN) := PS.imp ps_retN (by
  rintro De σ H ⟨N, env, Dd, f, hT, ok⟩
  exact ok.rt _ _ _ f.n.ext rep_non hT)
def dIfS (c : TDT) (t u : TDS) : TDS := fun ξ De env => c ξ env fun b => if b = true then t ξ De env else u ξ De env
theorem ds_if {c : Expr} {a b : List Stmt} {tc : TDT} (hc : PT X c (tDT F tc)) (ha : PSs X a (sD F T)) (hb : PSs X b (sD F U)) : PS X (.If c a b pos) (sD F (dIfS tc T U)) := PS.imp (ps_if hc ha hb) (by
  rintro De σ H ⟨N, env, Dd, f, hT, ok⟩
  refine ⟨N, env, _, f, hT, fun k H1 e1 q1 => ?_⟩
  by_cases hk : k = true
  · rw [if_pos hk] at q1 ⊢
    exact ⟨N, env, Dd, f.ext' e1, q1, ok.of (.of f.n e1)⟩
  · rw [if_neg hk] at q1 ⊢
    exact ⟨N, env, Dd, f.ext' e1, q1, ok.of (.of f.n e1)⟩)
/-- never come to -/
def dNever : TDS := fun _ _ _ => False
theorem ds_never : PS X st (sD F dNever) := PS.imp ps_never (by
  rintro De σ H ⟨N, env, Dd, f, hT, ok⟩
  exact hT.elim)
theorem dss_never {sts : List Stmt} : PSs X sts (sD F dNever) := PSs.imp pss_never (by
  rintro De σ H ⟨N, env, Dd, f, hT, ok⟩
  exact hT.elim)

/-! ### targets -/
theorem FOk.set {N : Addr → Prop} {σ : L2.St} {H : Hp} {env : SE} (f : FOk F N σ H env) (i : Nat) {x : D} {v : V} (r : Rep F.K F.Z N H x v) : FOk F N (σ.set i (some v)) H (env.set i (.d x)) where
  n := f.n
  len := by rw [List.length_set, List.length_set]; exact f.len
  slot := fun j s h => by
    by_cases hj : i = j
    · subst hj
      have hl : i < env.length := by
        have := (List.getElem?_eq_some_iff.mp h).1
        rwa [List.length_set] at this
      rw [List.getElem?_set_self hl] at h
      cases h
      exact ⟨v, by rw [List.getElem?_set_self (by rw [f.len]; exact hl)], r⟩
    · rw [List.getElem?_set_ne hj] at h
      rw [List.getElem?_set_ne hj]
      exact f.slot j s h
  apart := fun j k p xs ys hjk h1 h2 h3 h4 => by
    have o : ∀ {j : Nat} {xs : List D}, (env.set i (.d x))[j]? = some (.own xs) → i ≠ j ∧ env[j]? = some (.own xs) := fun {j xs} h => by
      by_cases hj : i = j
      · subst hj
        have hl : i < env.length := by
          have := (List.getElem?_eq_some_iff.mp h).1
          rwa [List.length_set] at this
        rw [List.getElem?_set_self hl] at h
        cases h
      · rw [List.getElem?_set_ne hj] at h
        exact ⟨hj, h⟩
    obtain ⟨n1, h1⟩ := o h1
    obtain ⟨n2, h2⟩ := o h2
    rw [List.getElem?_set_ne n1] at h3
    rw [List.getElem?_set_ne n2] at h4
    exact f.apart j k p xs ys hjk h1 h2 h3 h4
abbrev TDG := D → SE → (SE → Prop) → Prop
abbrev TDGs := List D → SE → (SE → Prop) → Prop
def gD (F : FP) (G : TDG) : TG := fun v σ H Q => ∃ N env d Qd, FOk F N σ H env ∧ Rep F.K F.Z N H d v ∧ G d env Qd ∧ ∀ σ' env', FOk F N σ' H env' → Qd env' → Q σ' H
def gDs (F : FP) (G : TDGs) : TGs := fun vs σ H Q => ∃ N env ds Qd, FOk F N σ H env ∧ Reps F.K F.Z N H ds vs ∧ G ds env Qd ∧ ∀ σ' env', FOk F N σ' H env' → Qd env' → Q σ' H
theorem PG.imp {t t' : TG} (h : PG X e t) (hi : ∀ v σ H Q, t' v σ H Q → t v σ H Q) : PG X e t' := ⟨fun pins s σ H v u Q I r hw => h.run pins s σ H v u Q I r (hi _ _ _ _ hw)⟩
theorem PGs.imp {t t' : TGs} (h : PGs X es t) (hi : ∀ v σ H Q, t' v σ H Q → t v σ H Q) : PGs X es t' := ⟨fun pins s σ H v u Q I r hw => h.run pins s σ H v u Q I r (hi _ _ _ _ hw)⟩
def dgName (i : Nat) : TDG := fun d env Q => Q (env.set i (.d d))
theorem dg_name {i : Nat} (h : PG X e (gName i)) : PG X e (gD F (dgName i)) := PG.imp h (by
  rintro v σ H Q ⟨N, env, d, Qd, f, r, hG, k⟩
  exact k _ _ (f.set i r) hG)
def dgNil : TDGs := fun ds env Q => match ds with
  | [] => Q env
  | _ => False
def dgCons (G : TDG) (Gs : TDGs) : TDGs := fun ds env Q => match ds with
  | d :: r => G d env fun env' => Gs r env' Q
  | [] => False
theorem dgs_nil : PGs X [] (gDs F dgNil) := PGs.imp pgs_nil (by
  rintro v σ H Q ⟨N, env, ds, Qd, f, r, hG, k⟩
  cases ds with
  | nil => exact ⟨r, k _ _ f hG⟩
  | cons d ds => exact hG.elim)
/-- targets that leave the frame's frozen part as it is (names, tuples of names) -/
theorem dgs_cons {G : TDG} {Gs : TDGs} (h1 : PG X e (gD F G)) (h2 : PGs X es (gDs F Gs)) (hc : (assignEach (e :: es) X.env).map (·.2) = assign e X.env :: (assignEach es X.env).map (·.2) := by rfl) : PGs X (e :: es) (gDs F (dgCons G Gs)) := PGs.imp (pgs_cons h1 h2 hc) (by
  rintro v σ H Q ⟨N, env, ds, Qd, f, r, hG, k⟩
  cases ds with
  | nil => exact hG.elim
  | cons d ds =>
    obtain ⟨v0, vr, rfl, r1, r2⟩ := r
    exact ⟨v0, vr, rfl, N, env, d, _, f, r1, hG, fun σ' env' f' q => ⟨N, env', ds, _, f', r2, q, k⟩⟩)
def dgTup (n : Nat) (Gs : TDGs) : TDG := fun d env Q => match d with
  | .tup ds => ds.length = n ∧ Gs ds env Q
  | _ => False
theorem dg_tup {Gs : TDGs} {k n : Nat} (hK : F.K = X.K) (hc : X.calm = true) (h : PGs X es (gDs F Gs)) (hn : (assignEach es X.env).length = n := by rfl) (hst : (assignEach es X.env).findIdx? (·.1) = none := by rfl) :
    PG X (.Tuple es k pos) (gD F (dgTup n Gs)) := PG.imp (pg_tup hc h hn hst) (by
  rintro v σ H Q ⟨N, env, d, Qd, f, r, hG, k⟩
  cases d <;> first | exact hG.elim | skip
  rename_i ds
  obtain ⟨a, vs, rfl, r1, r2⟩ := r
  exact ⟨a, vs, rfl, by rw [← hK]; exact sqt_of r1, by rw [← r2.length]; exact hG.1, N, env, ds, _, f, r2, hG.2, k⟩)
def dAsg (T : TDE) (G : TDG) : TDS := fun ξ De env => T ξ env fun x => G x env De.nx
theorem tAsg_imp {G : TDG} : ∀ De σ H, sD F (dAsg Ta G) De σ H → tAsg (tD F Ta) (gD F G) De σ H := by
  rintro De σ H ⟨N, env, Dd, f, hT, ok⟩
  exact ⟨N, env, _, f, hT, fun v H' d e1 r q => ⟨N, env, d, _, f.ext' e1, r, q, fun σ' env' f' q' => ok.nx _ _ _ _ f' (.of f.n e1) q'⟩⟩
theorem ds_asg {tg : Expr} {G : TDG} (he : PE X e (tD F Ta)) (hg : PG X tg (gD F G)) (hs : swapsWithSole [tg] e pos.line X.env = pure false := by rfl) (hw : swappedStores [tg] e X.env = pure none := by rfl) (h1 : (assignEach [tg] X.env).map (·.2) = [assign tg X.env] := by rfl) : PS X (.Assign [tg] e pos) (sD F (dAsg Ta G)) :=
  PS.imp (ps_asg he hg hs hw h1) tAsg_imp
/-- x = e, x in slot i -/
theorem ds_set {i : Nat} {x : Str} {pos' : Pos} (hN : X.N.Nodup) (hi : X.N[i]? = some x) (hx : Loc X.env.scope x) (he : PE X e (tD F Ta)) (hs : swapsWith e (some (.Name x pos')) pos.line X.env = pure false := by rfl)
    (hf : X.fn x = true ∨ X.env.scope.names.lookup x = some .local := by first | exact .inl rfl | exact .inr rfl | assumption) : PS X (.Assign [.Name x pos'] e pos) (sD F (dAsg Ta (dgName i))) :=
  PS.imp (ps_set hN hi hx he hs hf) (by
  rintro De σ H ⟨N, env, Dd, f, hT, ok⟩
  exact ⟨N, env, _, f, hT, fun v H' d e1 r q => ok.nx _ _ _ _ ((f.ext' e1).set i r) (.of f.n e1) q⟩)
/-- x, y = a, b -/
def dPar (i j : Nat) (Ta : TDA) : TDS := fun ξ De env => Ta ξ env fun ds => match ds with
  | [x, y] => De.nx ((env.set i (.d x)).set j (.d y))
  | _ => False
theorem tPar_imp {i j : Nat} : ∀ De σ H, sD F (dPar i j Tas) De σ H → tPar i j (tDA F Tas) De σ H := by
  rintro De σ H ⟨N, env, Dd, f, hT, ok⟩
  refine ⟨N, env, _, f, hT, fun vs H' ds e1 r q => ?_⟩
  split at q
  · obtain ⟨v, _, rfl, r1, w, _, rfl, r2, r3⟩ := r
    cases r3
    exact ⟨v, w, rfl, ok.nx _ _ _ _ (((f.ext' e1).set i r1).set j r2) (.of f.n e1) q⟩
  · exact q.elim
def dPar3 (i j l : Nat) (Ta : TDA) : TDS := fun ξ De env => Ta ξ env fun ds => match ds with
  | [x, y, z] => De.nx (((env.set i (.d x)).set j (.d y)).set l (.d z))
  | _ => False
theorem tPar3_imp {i j l : Nat} : ∀ De σ H, sD F (dPar3 i j l Tas) De σ H → tPar3 i j l (tDA F Tas) De σ H := by
  rintro De σ H ⟨N, env, Dd, f, hT, ok⟩
  refine ⟨N, env, _, f, hT, fun vs H' ds e1 r q => ?_⟩
  split at q
  · obtain ⟨v, _, rfl, r1, w, _, rfl, r2, u, _, rfl, r3, r4⟩ := r
    cases r4
    exact ⟨v, w, u, rfl, ok.nx _ _ _ _ ((((f.ext' e1).set i r1).set j r2).set l r3) (.of f.n e1) q⟩
  · exact q.elim
/-- x += e of ints -/
def dAug (i : Nat) (g : G2) (T : TDE) : TDS := fun ξ De env => match env[i]? with
  | some (.d x) => T ξ env fun y => g x y fun z => De.nx (env.set i (.d z))
  | _ => False

/-! ### for -/
def forD (G : TDG) (B : TDS) (ξ : XW) (De : DEnds) : List D → SE → Prop
  | [], env => De.nx env
  | d :: ds, env => G d env fun env' => B ξ { De with nx := forD G B ξ De ds, ct := forD G B ξ De ds, bk := De.nx } env'
def dFor (T : TDE) (G : TDG) (B : TDS) : TDS := fun ξ De env => T ξ env fun d => match d with
  | .lst ds => forD G B ξ De ds env
  | _ => False
def dForT (T : TDE) (G : TDG) (B : TDS) : TDS := fun ξ De env => T ξ env fun d => match d with
  | .tup ds => forD G B ξ De ds env
  | _ => False
theorem forD_step {G : TDG} {B : TDS} {De : Ends} {Dd : DEnds} {N0 N : Addr → Prop} {H0 H : Hp} {σ : L2.St} {env : SE} {d : D} {v : V} {i : Nat} {all : List D} {Pv : Nat → L2.St → Hp → Prop}
    (hP : ∀ i σ H, Pv i σ H ↔ ∃ N env, FOk F N σ H env ∧ Evo N0 H0 N H ∧ forD G B F.ex Dd (all.drop i) env) (ok : EndsOk F N0 H0 Dd De) (f : FOk F N σ H env) (ev : Evo N0 H0 N H)
    (hd : all[i]? = some d) (r : Rep F.K F.Z N H d v) (h : forD G B F.ex Dd (all.drop i) env) :
    gD F G v σ H fun σ2 H2 => sD F B { De with nx := Pv (i + 1), ct := Pv (i + 1), bk := De.nx } σ2 H2 := by
  obtain ⟨hi, e⟩ := List.getElem?_eq_some_iff.mp hd
  rw [List.drop_eq_getElem_cons hi, e] at h
  refine ⟨N, env, d, _, f, r, h, fun σ' env' f' q => ⟨N, env', _, f', q, ⟨fun N1 σ1 H1 env1 f1 v1 q1 => ?_, ok.rt, fun N1 σ1 H1 env1 f1 v1 q1 => ok.nx _ _ _ _ f1 (ev.trans v1) q1, fun N1 σ1 H1 env1 f1 v1 q1 => ?_⟩⟩⟩
  · exact (hP _ _ _).mpr ⟨N1, env1, f1, ev.trans v1, q1⟩
  · exact (hP _ _ _).mpr ⟨N1, env1, f1, ev.trans v1, q1⟩
theorem ds_for {iter tg : Expr} {body : List Stmt} {G : TDG} {B : TDS} (hK : F.K = X.K) (hp : PassesOwn (model X.prog X.w) X.A X.env X.xe) (hc : X.calm = true) (hi : PE X iter (tD F Ta)) (hg : PG X tg (gD F G)) (hb : PSs X body (sD F B))
    (hs : ∀ x, foldedSetIterable iter X.env x = pure x := by intro _; rfl) : PS X (.For tg iter body [] pos) (sD F (dFor Ta G B)) := PS.imp (ps_for hp hc (pi_list hi) hg hb hs) (by
  rintro De σ H ⟨N, env, Dd, f, hT, ok⟩
  refine ⟨N, env, _, f, hT, fun v H1 d e1 r q => ?_⟩
  cases d <;> first | exact q.elim | skip
  rename_i ds
  obtain ⟨a, vs, rfl, na, ra, rs⟩ := r
  refine ⟨a, rfl, ⟨vs, SqL.of ra⟩, ?_⟩
  have f1 := f.ext' e1
  have ok1 := ok.of (.of f.n e1)
  refine for_list (K := X.K) (a := a) (xs := vs) (fun i σ H' => ∃ N' env', FOk F N' σ H' env' ∧ Evo N H1 N' H' ∧ forD G B F.ex Dd (ds.drop i) env') ⟨N, env, f1, .refl, q⟩ (fun i σ' H' _ ⟨N', env', f', ev, _⟩ => SqL.of (ev a _ na kp_lst ra).1) ?_ ?_
  · rintro i x σ' H' hx ⟨N', env', f', ev, q'⟩
    obtain ⟨d, hd, rd⟩ := rs.getV hx
    exact forD_step (fun _ _ _ => Iff.rfl) ok1 f' ev hd (Rep.mono ev d x rd) q'
  · rintro σ' H' ⟨N', env', f', ev, q'⟩
    rw [← rs.length, List.drop_length] at q'
    exact ok1.nx _ _ _ _ f' ev q')
theorem ds_forT {iter tg : Expr} {body : List Stmt} {G : TDG} {B : TDS} (hK : F.K = X.K) (hp : PassesOwn (model X.prog X.w) X.A X.env X.xe) (hc : X.calm = true) (hi : PE X iter (tD F Ta)) (hg : PG X tg (gD F G)) (hb : PSs X body (sD F B))
    (hs : ∀ x, foldedSetIterable iter X.env x = pure x := by intro _; rfl) : PS X (.For tg iter body [] pos) (sD F (dForT Ta G B)) := PS.imp (ps_for hp hc (pi_tup hi) hg hb hs) (by
  rintro De σ H ⟨N, env, Dd, f, hT, ok⟩
  refine ⟨N, env, _, f, hT, fun v H1 d e1 r q => ?_⟩
  cases d <;> first | exact q.elim | skip
  rename_i ds
  obtain ⟨a, vs, rfl, ra, rs⟩ := r
  refine ⟨a, rfl, ⟨vs, by rw [← hK]; exact sqt_of ra⟩, ?_⟩
  have f1 := f.ext' e1
  have ok1 := ok.of (.of f.n e1)
  refine for_tup (K := X.K) (a := a) (xs := vs) (fun i σ H' => ∃ N' env', FOk F N' σ H' env' ∧ Evo N H1 N' H' ∧ forD G B F.ex Dd (ds.drop i) env') ⟨N, env, f1, .refl, q⟩ (fun i σ' H' _ ⟨N', env', f', ev, _⟩ => ?_) ?_ ?_
  · rw [← hK]
    refine sqt_of (N := N') ?_
    rcases ra with ⟨n, ra⟩ | ra
    · obtain ⟨h1, h2⟩ := ev a _ n kp_tup ra
      exact .inl ⟨h2, h1⟩
    · exact .inr ra
  · rintro i x σ' H' hx ⟨N', env', f', ev, q'⟩
    obtain ⟨d, hd, rd⟩ := rs.getV hx
    exact forD_step (fun _ _ _ => Iff.rfl) ok1 f' ev hd (Rep.mono ev d x rd) q'
  · rintro σ' H' ⟨N', env', f', ev, q'⟩
    rw [← rs.length, List.drop_length] at q'
    exact ok1.nx _ _ _ _ f' ev q')
/-- the ints lo, lo + 1, .. -/
def intsD (lo : Int) (n : Nat) : List D := (List.range n).map fun (i : Nat) => D.int (lo + i)
theorem ints_get {lo : Int} {n i : Nat} (h : i < n) : (intsD lo n)[i]? = some (.int (lo + i)) := by
  unfold intsD
  rw [List.getElem?_map, List.getElem?_range h]
  rfl
theorem ints_len {lo : Int} {n : Nat} : (intsD lo n).length = n := by simp [intsD]
def dForR (T : TDA) (G : TDG) (B : TDS) : TDS := fun ξ De env => T ξ env fun ds => match ds with
  | [.int j] => (-(2 ^ 62) ≤ j ∧ j < 2 ^ 62) ∧ forD G B ξ De (intsD 0 j.toNat) env
  | _ => False
def dForR2 (T : TDA) (G : TDG) (B : TDS) : TDS := fun ξ De env => T ξ env fun ds => match ds with
  | [.int i, .int j] => (-(2 ^ 62) ≤ i ∧ i < 2 ^ 62 ∧ -(2 ^ 62) ≤ j ∧ j < 2 ^ 62) ∧ forD G B ξ De (intsD i (j - i).toNat) env
  | _ => False
theorem for_rangeD {G : TDG} {B : TDS} {De : Ends} {Dd : DEnds} {N : Addr → Prop} {H1 : Hp} {σ : L2.St} {env : SE} {lo : Int} {n : Nat} (ok1 : EndsOk F N H1 Dd De) (f1 : FOk F N σ H1 env) (q : forD G B F.ex Dd (intsD lo n) env) :
    ∃ W : Nat → Nat → L2.St → Hp → Prop, (∃ m, W 0 m σ H1) ∧ ∀ i m σ H, W i m σ H →
      ((Itr lo n).stop i H ∧ De.nx σ H) ∨ ((Itr lo n).go i H ∧ ∃ N : L2.St → Hp → Prop, (∀ σ' H', N σ' H' → ∃ m', m' < m ∧ W (i + 1) m' σ' H') ∧ ∀ x H', (Itr lo n).yld i H x H' → gD F G x σ H' fun σ2 H2 => sD F B { De with nx := N, ct := N, bk := De.nx } σ2 H2) := by
  refine for_range (lo := lo) (n := n) (fun i σ H' => ∃ N' env', FOk F N' σ H' env' ∧ Evo N H1 N' H' ∧ forD G B F.ex Dd ((intsD lo n).drop i) env') ⟨N, env, f1, .refl, q⟩ ?_ ?_
  · rintro i σ' H' hi ⟨N', env', f', ev, q'⟩
    exact forD_step (fun _ _ _ => Iff.rfl) ok1 f' ev (ints_get hi) rep_int q'
  · rintro σ' H' ⟨N', env', f', ev, q'⟩
    rw [show (intsD lo n).drop n = [] from by rw [List.drop_eq_nil_iff, ints_len]; exact Nat.le_refl _] at q'
    exact ok1.nx _ _ _ _ f' ev q'
theorem ds_forR1 {tg a : Expr} {p pos' : Pos} {body : List Stmt} {G : TDG} {B : TDS} (hp : PassesOwn (model X.prog X.w) X.A X.env X.xe) (hc : X.calm = true) (hgl : Gl X "range") (hm : X.mg "range" = none) (ha : PA X [a] (tDA F Tas)) (hg : PG X tg (gD F G)) (hb : PSs X body (sD F B))
    (hsa : starEach [a] X.env = [(false, eval a X.env)] := by rfl) (hs : ∀ x, foldedSetIterable (.Call (.Name "range" p) [a] [] pos') X.env x = pure x := by intro _; rfl) : PS X (.For tg (.Call (.Name "range" p) [a] [] pos') body [] pos) (sD F (dForR Tas G B)) := PS.imp (ps_for hp hc (pi_range1 hgl hm ha hsa) hg hb hs) (by
  rintro De σ H ⟨N, env, Dd, f, hT, ok⟩
  refine ⟨N, env, _, f, hT, fun vs H1 ds e1 r q => ?_⟩
  split at q
  · obtain ⟨v, _, rfl, r1, r2⟩ := r
    cases r2
    refine ⟨_, by rw [show v = _ from r1], q.1.1, q.1.2, ?_⟩
    exact for_rangeD (ok.of (.of f.n e1)) (f.ext' e1) q.2
  · exact q.elim)
theorem ds_forR2 {tg a b : Expr} {p pos' : Pos} {body : List Stmt} {G : TDG} {B : TDS} (hp : PassesOwn (model X.prog X.w) X.A X.env X.xe) (hc : X.calm = true) (hgl : Gl X "range") (hm : X.mg "range" = none) (ha : PA X [a, b] (tDA F Tas)) (hg : PG X tg (gD F G)) (hb : PSs X body (sD F B))
    (hsa : starEach [a, b] X.env = [(false, eval a X.env), (false, eval b X.env)] := by rfl) (hs2 : starEach [b] X.env = [(false, eval b X.env)] := by rfl) (hs : ∀ x, foldedSetIterable (.Call (.Name "range" p) [a, b] [] pos') X.env x = pure x := by intro _; rfl) : PS X (.For tg (.Call (.Name "range" p) [a, b] [] pos') body [] pos) (sD F (dForR2 Tas G B)) := PS.imp (ps_for hp hc (pi_range2 hgl hm ha hsa hs2) hg hb hs) (by
  rintro De σ H ⟨N, env, Dd, f, hT, ok⟩
  refine ⟨N, env, _, f, hT, fun vs H1 ds e1 r q => ?_⟩
  split at q
  · obtain ⟨v, _, rfl, r1, w, _, rfl, r2, r3⟩ := r
    cases r3
    refine ⟨_, _, by rw [show v = _ from r1, show w = _ from r2], q.1, ?_⟩
    exact for_rangeD (ok.of (.of f.n e1)) (f.ext' e1) q.2
  · exact q.elim)

/-! ### while -/
def whileN (c : TDT) (B : TDS) (ξ : XW) (De : DEnds) : Nat → SE → Prop
  | 0, _ => False
  | n + 1, env => c ξ env fun k => if k = true then B ξ { De with nx := whileN c B ξ De n, ct := whileN c B ξ De n, bk := De.nx } env else De.nx env
def dWhile (c : TDT) (B : TDS) : TDS := fun ξ De env => ∃ n, whileN c B ξ De n env
theorem ds_while {c : Expr} {body : List Stmt} {C : TDT} {B : TDS} (hp : PassesOwn (model X.prog X.w) X.A X.env X.xe) (hc : PT X c (tDT F C)) (hb : PSs X body (sD F B)) : PS X (.While c body [] pos) (sD F (dWhile C B)) := PS.imp (ps_while hp hc hb) (by
  rintro De σ H ⟨N, env, Dd, f, ⟨n, hT⟩, ok⟩
  refine ⟨fun m σ' H' => ∃ N' env', FOk F N' σ' H' env' ∧ Evo N H N' H' ∧ whileN C B F.ex Dd m env', ⟨n, N, env, f, .refl, hT⟩, ?_⟩
  rintro m σ' H' ⟨N', env', f', ev, q⟩
  cases m with
  | zero => exact q.elim
  | succ m =>
    refine ⟨N', env', _, f', q, fun k H2 e2 q2 => ?_⟩
    have ev2 : Evo N H N' H2 := ev.trans (.of f'.n e2)
    by_cases hk : k = true
    · subst hk
      rw [if_pos rfl] at q2
      refine iteT ?_
      refine ⟨fun σ3 H3 => ∃ N3 env3, FOk F N3 σ3 H3 env3 ∧ Evo N H N3 H3 ∧ whileN C B F.ex Dd m env3, fun σ3 H3 q3 => ⟨m, Nat.lt_succ_self m, q3⟩, N', env', _, f'.ext' e2, q2, ?_⟩
      exact ⟨fun N1 σ1 H1 env1 f1 v1 q1 => ⟨N1, env1, f1, ev2.trans v1, q1⟩, ok.rt, fun N1 σ1 H1 env1 f1 v1 q1 => ok.nx _ _ _ _ f1 (ev2.trans v1) q1, fun N1 σ1 H1 env1 f1 v1 q1 => ⟨N1, env1, f1, ev2.trans v1, q1⟩⟩
    · rw [Bool.not_eq_true] at hk
      subst hk
      rw [if_neg Bool.false_ne_true] at q2
      exact iteF (ok.nx _ _ _ _ (f'.ext' e2) ev2 q2))
end
end DL
set_option Elab.async false
set_option linter.all false
set_option maxRecDepth 100000
namespace DL
open PySem PySem.Spec L2
open PyProof.Rows hiding St

/-! ### defs, where no text is being written -/
structure RoomG (k : Nat) (A : Around) : Prop where
  r : Room k A
  g : A.guards = some []
theorem RoomG.mono {j k : Nat} {A : Around} (h : RoomG k A) (l : j ≤ k) : RoomG j A := ⟨h.r.mono l, h.g⟩
theorem units80 {k : Nat} {A : Around} (r : Room k A) : A.units + 80 < cLine := by have := r.un; omega
theorem guards_deeper {A : Around} {env : Env} (h : A.guards = some []) : (A.deeper env).guards = some [] := by
  first | exact h | (simpa [Around.deeper] using h)
structure FnG (P : Program) (w : World) (K : PySem.W.Frag) (mg : Str → Option Value) (base : Heap) (CX : CXT) (k : Nat) (f : Addr) (fd : FuncData) (ps : List Str) (sp : Sp) : Prop where
  len : ∀ vs H Q E, sp vs H Q E → vs.length = ps.length
  run : ∀ (A : Around) (outer : List Env) (s : Shared) (H : Hp) (args : Args) (us : List Value) (vs : List V) (Q : VK) (E : XK), RoomG k A → Env0 P w K mg base A outer s H → BindsTo s fd args (ps.zip us) → Vals vs us → sp vs H Q E →
    codeAny (model P w) A (.call (.ref f) args) (CR CX outer P w H s Q E) s
section
variable {P : Program} {w : World} {K : PySem.W.Frag} {mg : Str → Option Value} {base : Heap} {CX : CXT} {k : Nat} {f : Addr} {fd : FuncData} {N ps : List Str} {sp : Sp}
theorem FnG.mono {j : Nat} (G : FnG P w K mg base CX j f fd ps sp) (h : j ≤ k) : FnG P w K mg base CX k f fd ps sp :=
  ⟨G.len, fun A outer s H args us vs Q E hr => G.run A outer s H args us vs Q E (hr.mono h)⟩
theorem FnG.imp {sp' : Sp} (G : FnG P w K mg base CX k f fd ps sp) (h : ∀ vs H Q E, sp' vs H Q E → sp vs H Q E) : FnG P w K mg base CX k f fd ps sp' :=
  ⟨fun vs H Q E q => G.len _ _ _ _ (h _ _ _ _ q), fun A outer s H args us vs Q E hr he hb hv hs => G.run A outer s H args us vs Q E hr he hb hv (h _ _ _ _ hs)⟩
theorem FnOk.toG (G : FnOk P w K mg base CX k f fd ps sp) : FnG P w K mg base CX k f fd ps sp :=
  ⟨G.len, fun A outer s H args us vs Q E hr => G.run A outer s H args us vs Q E hr.r⟩
/-- a def's body, by a term for each entry -/
theorem fng_ofC {x qual : Str} {params : Arguments} {body : List Stmt} {scope : Scope} {dvs : List V} {kws : List (Str × V)} (F : FunD K x qual params body scope dvs kws f fd) (S : FnScope N ps scope)
    (len : ∀ vs H Q E, sp vs H Q E → vs.length = ps.length)
    (hb : ∀ (cdv : Value) (A : Around) (outer : List Env) (s : Shared) (H : Hp) (vs : List V) (Q : VK) (E : XK), RoomG k (A.deeper (envOfC qual scope s.heap.objs.size f cdv)) → (PySem.W.codeIn K cdv qual = true ∧ fd.code = cdv) → sp vs H Q E →
      ∃ t, PSs (cxOf CX P w K mg base N qual scope f cdv A outer s H E) body t ∧ t { nx := fun _ H' => Q .non H', rt := Q } (start N vs) H) : FnG P w K mg base CX (k + 1) f fd ps sp := by
  obtain ⟨oc, od, dV, kV, doc, pm, an, cdv, ct, osl, efd, lk, hcd, _, _⟩ := F.ex
  subst efd
  constructor
  · exact len
  intro A outer s H args us vs Q E room e0 bnd rel wish
  have lenv := len _ _ _ _ wish
  have still : ∀ b o, base.get? b = some o → s.heap.get? b = some o := fun b o e => (e0.bs b o e).1
  have inK : K.In s.heap := e0.mod.kin.keeps still
  have noLim : s.heap.NoLimit := e0.mod.nolimit.keeps still
  have kinds : ∀ y ∈ ps.zip us, scope.names.lookup y.1 = some .local ∨ (scope.names.lookup y.1 = some .cell ∧ ((cellsFrom (s.heap.objs.size + 1) scope.names []).lookup y.1).isSome = true) := by
    rintro ⟨n, v⟩ hy
    have hn := (List.of_mem_zip hy).1
    exact (S.par n hn).elim .inl fun q => .inr ⟨q, PySem.W.cellsFrom_some _ _ _ (.inl q)⟩
  refine codeAny_call_function room.r.depth (inK _ _ lk) rfl S.co S.gen rfl (PySem.W.codeRec_of inK hcd) (bnd _ _ _ _ ?_)
  refine wpAny_newFunctionEnv_cells S.kind kinds ?_
  intro env ee s1 inc
  subst ee
  refine ⟨noLim.keeps inc.toInCall.keep, codeAny_func ?_⟩
  obtain ⟨t, pt, tq⟩ := hb cdv A outer s H vs Q E ⟨room.r.deeper _, guards_deeper room.g⟩ ⟨hcd, rfl⟩ wish
  have start_ok := inv_start (CX := CX) (E := E) (qual := qual) (f := f) (cd := cdv) S room.r.hd e0 lenv rel inc
  refine wpAny_mono (pt.run [] s1 (start N vs) H _ start_ok tq) ?_ fun e s' z => z
  intro fl s' z
  cases fl with
  | next =>
    obtain ⟨σ', H', J, q⟩ := z
    exact ⟨V.non, H', J.os, J.bare, J.base, J.hok, rfl, q⟩
  | ret u =>
    obtain ⟨v, σ', H', J, rv, q⟩ := z
    exact ⟨v, H', J.os, J.bare, J.base, J.hok, rv, q⟩
  | brk =>
    obtain ⟨_, _, _, q⟩ := z
    cases q
  | cont =>
    obtain ⟨_, _, _, q⟩ := z
    cases q
theorem fng_of {x qual : Str} {params : Arguments} {body : List Stmt} {scope : Scope} {dvs : List V} {kws : List (Str × V)} (F : FunD K x qual params body scope dvs kws f fd) (S : FnScope N ps scope)
    (len : ∀ vs H Q E, sp vs H Q E → vs.length = ps.length)
    (hb : ∀ (cdv : Value) (A : Around) (outer : List Env) (s : Shared) (H : Hp) (vs : List V) (Q : VK) (E : XK), RoomG k (A.deeper (envOfC qual scope s.heap.objs.size f cdv)) → sp vs H Q E →
      ∃ t, PSs (cxOf CX P w K mg base N qual scope f cdv A outer s H E) body t ∧ t { nx := fun _ H' => Q .non H', rt := Q } (start N vs) H) : FnG P w K mg base CX (k + 1) f fd ps sp :=
  fng_ofC F S len fun cdv A outer s H vs Q E room _ => hb cdv A outer s H vs Q E room
end

section
variable {X : Cx} {CX : CXT} {k : Nat} {f : Addr} {fd : FuncData} {ps ks : List Str} {sp : Sp} {dvs : List V} {ds : List Value} {E : XK} {x : Str} {p pos : Pos} {e : Expr} {es : List Expr} {kws : List Keyword} {t tk : TA}
theorem wish_of {pins : List (Addr × Obj)} {σ : L2.St} {H : Hp} {s : Shared} {Q : VK} (hx : Passes CX X E) (I : Inv X pins σ H s) {r : Result} {s' : Shared} (h : CR CX X.stack X.prog X.w H s Q E r s') :
    match r with
    | .ok (.ret u) => EP X pins σ Q u s'
    | .ok _ => False
    | .error e => X.xe e s' := by
  cases r with
  | error e => exact hx pins σ H s e s' I h
  | ok fl =>
    cases fl with
    | ret u => exact I.after h
    | next => exact h
    | brk => exact h
    | cont => exact h
theorem run_g {pins : List (Addr × Obj)} {σ : L2.St} {H : Hp} {s : Shared} {Q : VK} {us : List Value} {vs : List V} (G : FnG X.prog X.w X.K X.mg X.base CX k f fd ps sp) (hr : RoomG k X.A) (hb : Binds X.K fd ps ds) (hd : Vals dvs ds) (hx : Passes CX X E)
    (I : Inv X pins σ H s) (r : Vals vs us) (h : sp (vs ++ dvs) H Q E) : wpAny (model X.prog X.w) X.A (call (.ref f) us) (EP X pins σ Q) X.xe s := by
  have rr : Vals (vs ++ dvs) (us ++ ds) := r.append hd
  have hl : (us ++ ds).length = ps.length := rr.length.symm.trans (G.len _ _ _ _ h)
  refine wpAny_call (codeAny_mono (G.run X.A X.stack s H ⟨us, []⟩ (us ++ ds) (vs ++ dvs) Q E hr I.env0 (hb s us I.kIn hl) rr h) fun r s' hq => ?_)
  have z := wish_of hx I hq
  cases r with
  | error e => exact z
  | ok fl => cases fl <;> exact z
theorem pe_callG (G : FnG X.prog X.w X.K X.mg X.base CX k f fd ps sp) (hr : RoomG k X.A) (hg : Gl X x) (hm : X.mg x = some (.ref f)) (hk : PySem.W.keepIn X.K (.ref f) = true) (hb : Binds X.K fd ps ds) (hd : Vals dvs ds) (hx : Passes CX X E)
    (ha : PA X (e :: es) t) (hdb : (x == ("__debug__" : Str)) = false := by decide) (he : starEach (e :: es) X.env = (false, eval e X.env) :: starEach es X.env := by rfl) (hpl : (backTo pos (starEach es X.env)).any (·.1) = false := by rfl) :
    PE X (.Call (.Name x p) (e :: es) [] pos) (tCall sp dvs E t) := ⟨fun pins s σ H Q I h =>
  wpAny_Call_Name_kw (ld_glob I hg hm (PySem.W.callWith_K (h₀ := X.base) I.ok.mod.kin hk (thn (ha.run pos pins s σ H _ I h) fun us s1 ⟨vs, H1, I1, r, q⟩ => ⟨I1.kIn, run_g G hr hb hd hx I1 r q⟩) he hpl) hdb)⟩
/-- keywords: all parameters, or some behind positional ones -/
theorem run_gk {pins : List (Addr × Obj)} {σ : L2.St} {H : Hp} {s : Shared} {Q : VK} {us ws : List Value} {vs zs : List V} {g : List Value → List Value → List Value} {gV : List V → List V → List V} (G : FnG X.prog X.w X.K X.mg X.base CX k f fd ps sp) (hr : RoomG k X.A) (hb : KBinds X.K fd ps ks g gV) (hx : Passes CX X E)
    (I : Inv X pins σ H s) (r : Vals vs us) (rz : Vals zs ws) (h : sp (gV vs zs) H Q E) : wpAny (model X.prog X.w) X.A (call (.ref f) us (ks.zip ws)) (EP X pins σ Q) X.xe s := by
  have rr := hb.rel r rz
  have hl : (g us ws).length = ps.length := rr.length.symm.trans (G.len _ _ _ _ h)
  refine wpAny_call (codeAny_mono (G.run X.A X.stack s H ⟨us, ks.zip ws⟩ (g us ws) (gV vs zs) Q E hr I.env0 (hb.to s us ws I.kIn hl) rr h) fun r s' hq => ?_)
  have z := wish_of hx I hq
  cases r with
  | error e => exact z
  | ok fl => cases fl <;> exact z
end

/-! ### promises over data -/
abbrev XT := DX → Prop
abbrev TF := XT → List D → (D → Prop) → Prop
/-- the class of this name -/
def clsAt (K : PySem.W.Frag) (n : Str) : Value := match PySem.W.nsIn K mainGlobals n with
  | some (some v) => v
  | _ => .none
/-- an exception below: its class, its own dict -/
def XRep (K : PySem.W.Frag) (Z : Zn) (N : Addr → Prop) (H : Hp) (x : DX) (c : Value) (od : Option Addr) : Prop :=
  c = clsAt K x.cls ∧ ((x.fs = [] ∧ od = none) ∨ ∃ d vs, od = some d ∧ ¬ N d ∧ H d = some (.xd ((x.fs.map (·.1)).zip vs)) ∧ Reps K Z N H (x.fs.map (·.2)) vs)
structure BOk (K : PySem.W.Frag) (Z : Zn) (B : Addr → Prop) (H : Hp) : Prop where
  deck : DeckOk Z H
  zin : ∀ p, InZ Z p → B p
  all : ∀ p, B p → ∃ o, H p = some o ∧ Kp o
  tb : Z.tabs = tabsOf K
def spD (K : PySem.W.Frag) (n : Nat) (T : TF) : Sp := fun vs H Q E => ∃ (Z : Zn) (B : Addr → Prop) (ds : List D) (Qd : D → Prop) (Ed : DX → Prop), BOk K Z B H ∧ Reps K Z B H ds vs ∧ ds.length = n ∧ T Ed ds Qd ∧
  (∀ v H' d, Ext Z H H' → Rep K Z B H' d v → Qd d → Q v H') ∧ ∀ x c od H', Ext Z H H' → XRep K Z B H' x c od → Ed x → E c od H'
theorem NOk.bok {F : FP} {N : Addr → Prop} {H : Hp} (n : NOk F N H) : BOk F.K F.Z N H := ⟨n.deck, n.z, n.all, n.tb⟩
def startD (n : Nat) (ds : List D) : SE := ds.map Slot.d ++ List.replicate (n - ds.length) .un
theorem start_ok {K : PySem.W.Frag} {Z : Zn} {B : Addr → Prop} {H : Hp} {ds : List D} {vs : List V} {Ed : XW} {N : List Str} (b : BOk K Z B H) (r : Reps K Z B H ds vs) : FOk ⟨K, Z, B, H, Ed, B, H⟩ B (start N vs) H (startD N.length ds) where
  n := ⟨b.deck, .refl, fun _ h => h, b.zin, b.all, fun _ h n => (n h).elim, .refl, b.tb⟩
  len := by simp [L2.start, startD, r.length]
  slot := fun i s h => by
    unfold startD at h
    by_cases hi : i < ds.length
    · rw [List.getElem?_append_left (by simpa using hi), List.getElem?_map] at h
      obtain ⟨d, hd⟩ : ∃ d, ds[i]? = some d := ⟨_, List.getElem?_eq_getElem hi⟩
      rw [hd] at h
      cases h
      obtain ⟨v, h1, h2⟩ := r.get hd
      refine ⟨v, ?_, h2⟩
      unfold L2.start
      rw [List.getElem?_append_left (by simpa [← r.length] using hi), List.getElem?_map, h1]
      rfl
    · rw [List.getElem?_append_right (by simpa using Nat.le_of_not_lt hi), List.getElem?_replicate] at h
      split at h
      · cases h; trivial
      · cases h
  apart := fun i j p xs ys _ h => by
    exfalso
    have : Slot.own xs ∈ startD N.length ds := List.mem_of_getElem? h
    unfold startD at this
    rcases List.mem_append.mp this with q | q
    · obtain ⟨d, _, e⟩ := List.mem_map.mp q; cases e
    · cases (List.mem_replicate.mp q).2
/-- what a def does with data: its body's reading -/
def tfOf (n : Nat) (T : TDS) : TF := fun ξ ds Q => T (fun x _ => ξ x) { nx := fun _ => Q .non, rt := Q } (startD n ds)
section
variable {P : Program} {w : World} {K : PySem.W.Frag} {mg : Str → Option Value} {base : Heap} {k : Nat} {f : Addr} {fd : FuncData} {N ps : List Str}
/-- a def that lets nothing out -/
theorem fng_data {x qual : Str} {params : Arguments} {body : List Stmt} {scope : Scope} {dvs : List V} {kws : List (Str × V)} {T : TDS} (Fd : FunD K x qual params body scope dvs kws f fd) (S : FnScope N ps scope)
    (hb : ∀ (cdv : Value) (A : Around) (outer : List Env) (s : Shared) (H : Hp) (E : XK) (F : FP), F.K = K → F.ex = (fun _ _ => False) → RoomG k (A.deeper (envOfC qual scope s.heap.objs.size f cdv)) →
      PSs (cxOf CX0 P w K mg base N qual scope f cdv A outer s H E).nox body (sD F T)) : FnG P w K mg base CX0 (k + 1) f fd ps (spD K ps.length fun _ ds Q => tfOf N.length T (fun _ => False) ds Q) := by
  refine fng_of Fd S ?_ ?_
  · rintro vs H Q E ⟨Z, B, ds, Qd, Ed, b, r, hl, _⟩
    rw [← r.length, hl]
  · rintro cdv A outer s H vs Q E room ⟨Z, B, ds, Qd, Ed, b, r, hl, hT, hq, _⟩
    refine ⟨_, (hb cdv A outer s H E ⟨K, Z, B, H, fun _ _ => False, B, H⟩ rfl rfl room).nox, ?_⟩
    exact ⟨B, _, _, start_ok b r, hT, ⟨fun N' σ' H' env' f' _ q => hq _ _ _ f'.n.ext rep_non q, fun v H' d e r' q => hq v H' d e r' q, fun _ _ _ _ _ _ q => q.elim, fun _ _ _ _ _ _ q => q.elim⟩⟩
end

/-! ### calls over data -/
section
variable {X : Cx} {F : FP} {k n : Nat} {f : Addr} {fd : FuncData} {ps ks : List Str} {x : Str} {p pos : Pos} {e : Expr} {es : List Expr} {kws : List Keyword} {Tas Tks : TDA} {T : TF}
def dCall (n : Nat) (T : TF) (Ta : TDA) : TDE := fun ξ env Q => Ta ξ env fun ds => ds.length = n ∧ T (fun _ => False) ds Q
theorem tCall_imp (hK : F.K = X.K) : ∀ σ H Q, tD F (dCall n T Tas) σ H Q → tCall (spD X.K n T) [] E0 (tDA F Tas) σ H Q := by
  rintro σ H Q ⟨N, env, Qd, f, hT, k⟩
  refine ⟨N, env, _, f, hT, fun vs H1 ds e1 r1 q1 => ?_⟩
  have n1 := (f.ext' e1).n
  refine ⟨F.Z, N, ds, Qd, _, by rw [← hK]; exact n1.bok, by rw [List.append_nil, ← hK]; exact r1, q1.1, q1.2, fun v H2 d e2 r2 q2 => k v H2 d (e1.trans e2) (by rw [hK]; exact r2) q2, fun _ _ _ _ _ _ z => z⟩
/-- f(e, ..): all parameters, by position -/
theorem d_call (G : FnG X.prog X.w X.K X.mg X.base CX0 k f fd ps (spD X.K n T)) (hK : F.K = X.K) (hr : RoomG k X.A) (hg : Gl X x) (hm : X.mg x = some (.ref f)) (hk : PySem.W.keepIn X.K (.ref f) = true) (hb : Binds X.K fd ps [])
    (ha : PA X (e :: es) (tDA F Tas)) (hdb : (x == ("__debug__" : Str)) = false := by decide) (he : starEach (e :: es) X.env = (false, eval e X.env) :: starEach es X.env := by rfl) (hpl : (backTo pos (starEach es X.env)).any (·.1) = false := by rfl) :
    PE X (.Call (.Name x p) (e :: es) [] pos) (tD F (dCall n T Tas)) :=
  PE.imp (pe_callG G hr hg hm hk hb .nil pass0 ha hdb he hpl) (tCall_imp hK)

/-! ### calls by name -/
theorem PK.imp {t t' : TA} (h : PK X kws t) (hi : ∀ σ H Q, t' σ H Q → t σ H Q) : PK X kws t' := ⟨fun pos pins s σ H Q I hw => h.run pos pins s σ H Q I (hi _ _ _ hw)⟩
theorem dk_nil : PK X [] (tDA F dNil) := PK.imp pk_nil (by
  rintro σ H Q ⟨N, env, Qd, f, hT, k⟩
  exact k [] H [] Ext.refl rfl hT)
theorem dk_cons {nm : Option Str} {kpos : Pos} {Ta : TDE} {Tr : TDA} (ha : PE X e (tD F Ta)) (hr : PK X kws (tDA F Tr)) : PK X (⟨nm, e, kpos⟩ :: kws) (tDA F (dCons Ta Tr)) := PK.imp (pk_cons ha hr) tCons_imp
/-- the values in the parameters' order -/
def perm {α : Type} : List Nat → List α → List α
  | [], _ => []
  | i :: r, l => match l[i]? with
    | some x => x :: perm r l
    | none => perm r l
theorem perm_vals {vs : List V} {us : List Value} (r : Vals vs us) : ∀ idx : List Nat, Vals (perm idx vs) (perm idx us)
  | [] => .nil
  | i :: idx => by
    unfold perm
    cases q : vs[i]? with
    | none => rw [r.none_of q]; exact perm_vals r idx
    | some v =>
      obtain ⟨u, h1, h2⟩ := r.get q
      rw [h1]
      exact .cons h2 (perm_vals r idx)
theorem perm_reps {K : PySem.W.Frag} {Z : Zn} {N : Addr → Prop} {H : Hp} {ds : List D} {vs : List V} (r : Reps K Z N H ds vs) : ∀ idx : List Nat, Reps K Z N H (perm idx ds) (perm idx vs)
  | [] => rfl
  | i :: idx => by
    unfold perm
    cases q : ds[i]? with
    | none =>
      have : vs[i]? = none := by
        rw [List.getElem?_eq_none_iff] at q ⊢
        rw [← r.length]; exact q
      rw [this]; exact perm_reps r idx
    | some d =>
      obtain ⟨v, h1, h2⟩ := r.get q
      rw [h1]
      exact ⟨v, _, rfl, h2, perm_reps r idx⟩
def KB (fd : FuncData) (ps ks : List Str) (idx : List Nat) : Prop := ∀ (s : Shared) (ws : List Value), ws.length = ks.length → BindsTo s fd ⟨[], ks.zip ws⟩ (ps.zip (perm idx ws))
def tCallP (m : Nat) (sp : Sp) (idx : List Nat) (E : XK) (tk : TA) : TE := fun σ H Q => tk σ H fun zs H2 => zs.length = m ∧ sp (perm idx zs) H2 Q E
theorem run_gp {CX : CXT} {sp : Sp} {E : XK} {idx : List Nat} {pins : List (Addr × Obj)} {σ : L2.St} {H : Hp} {s : Shared} {Q : VK} {ws : List Value} {zs : List V} (G : FnG X.prog X.w X.K X.mg X.base CX k f fd ps sp) (hr : RoomG k X.A) (hb : KB fd ps ks idx) (hx : Passes CX X E)
    (I : Inv X pins σ H s) (rz : Vals zs ws) (hl : zs.length = ks.length) (h : sp (perm idx zs) H Q E) : wpAny (model X.prog X.w) X.A (call (.ref f) [] (ks.zip ws)) (EP X pins σ Q) X.xe s := by
  refine wpAny_call (codeAny_mono (G.run X.A X.stack s H ⟨[], ks.zip ws⟩ (perm idx ws) (perm idx zs) Q E hr I.env0 (hb s ws (rz.length.symm.trans hl)) (perm_vals rz idx) h) fun r s' hq => ?_)
  have z := wish_of hx I hq
  cases r with
  | error e => exact z
  | ok fl => cases fl <;> exact z
theorem pe_callP {CX : CXT} {sp : Sp} {E : XK} {idx : List Nat} {tk : TA} (G : FnG X.prog X.w X.K X.mg X.base CX k f fd ps sp) (hr : RoomG k X.A) (hg : Gl X x) (hm : X.mg x = some (.ref f)) (hk : PySem.W.keepIn X.K (.ref f) = true) (hb : KB fd ps ks idx) (hx : Passes CX X E)
    (hkw : PK X kws tk) (hall : (backToKw pos (keywordEach kws X.env)).all (·.1.isSome) = true := by rfl) (hks : (backToKw pos (keywordEach kws X.env)).filterMap (·.1) = ks := by rfl) (hdb : (x == ("__debug__" : Str)) = false := by decide)
    (hpl : ((backTo pos (starEach [] X.env)).any (·.1) || (backToKw pos (keywordEach kws X.env)).any (·.1.isNone)) = false := by rfl) : PE X (.Call (.Name x p) [] kws pos) (tCallP ks.length sp idx E tk) := ⟨fun pins s σ H Q I h => by
  refine wpAny_Call_Name_kw (ld_glob I hg hm (PySem.W.callWith_KW0 (h₀ := X.base) I.ok.mod.kin hk hall ?_ hpl) hdb)
  refine thn (hkw.run pos pins s σ H _ I h) ?_
  rintro ws s2 ⟨zs, H2, I2, rz, l2, q2⟩
  rw [hks]
  exact ⟨I2.kIn, run_gp G hr hb hx I2 rz l2 q2⟩⟩
def dCallK (m n : Nat) (idx : List Nat) (T : TF) (Tk : TDA) : TDE := fun ξ env Q => Tk ξ env fun ds => (ds.length = m ∧ (perm idx ds).length = n) ∧ T (fun _ => False) (perm idx ds) Q
theorem d_callK {idx : List Nat} {m : Nat} (G : FnG X.prog X.w X.K X.mg X.base CX0 k f fd ps (spD X.K n T)) (hK : F.K = X.K) (hr : RoomG k X.A) (hg : Gl X x) (hm : X.mg x = some (.ref f)) (hk : PySem.W.keepIn X.K (.ref f) = true) (hb : KB fd ps ks idx)
    (hkw : PK X kws (tDA F Tks)) (hall : (backToKw pos (keywordEach kws X.env)).all (·.1.isSome) = true := by rfl) (hks : (backToKw pos (keywordEach kws X.env)).filterMap (·.1) = ks := by rfl) (hdb : (x == ("__debug__" : Str)) = false := by decide)
    (hpl : ((backTo pos (starEach [] X.env)).any (·.1) || (backToKw pos (keywordEach kws X.env)).any (·.1.isNone)) = false := by rfl) (hml : ks.length = m := by rfl) : PE X (.Call (.Name x p) [] kws pos) (tD F (dCallK m n idx T Tks)) :=
  PE.imp (pe_callP G hr hg hm hk hb pass0 hkw hall hks hdb hpl) (by
  subst hml
  rintro σ H Q ⟨N, env, Qd, f, hT, k⟩
  refine ⟨N, env, _, f, hT, fun vs H1 ds e1 r1 q1 => ⟨r1.length.symm.trans q1.1.1, ?_⟩⟩
  have n1 := (f.ext' e1).n
  refine ⟨F.Z, N, perm idx ds, Qd, _, by rw [← hK]; exact n1.bok, by rw [← hK]; exact perm_reps r1 idx, q1.1.2, q1.2, fun v H2 d e2 r2 q2 => k v H2 d (e1.trans e2) (by rw [hK]; exact r2) q2, fun _ _ _ _ _ _ z => z⟩)
end

/-! ### comprehensions -/
section
variable {X : Cx} {F : FP}
def wipeD (env : SE) : List Nat → SE
  | [] => env
  | v :: vs => (wipeD env vs).set v .un
theorem FOk.un {N : Addr → Prop} {σ : L2.St} {H : Hp} {env : SE} (f : FOk F N σ H env) (i : Nat) : FOk F N (σ.set i none) H (env.set i .un) where
  n := f.n
  len := by rw [List.length_set, List.length_set]; exact f.len
  slot := fun j s h => by
    by_cases hj : i = j
    · subst hj
      have hl : i < env.length := by
        have := (List.getElem?_eq_some_iff.mp h).1
        rwa [List.length_set] at this
      rw [List.getElem?_set_self hl] at h
      cases h
      trivial
    · rw [List.getElem?_set_ne hj] at h
      rw [List.getElem?_set_ne hj]
      exact f.slot j s h
  apart := fun j k p xs ys hjk h1 h2 h3 h4 => by
    have o : ∀ {j : Nat} {xs : List D}, (env.set i .un)[j]? = some (.own xs) → i ≠ j ∧ env[j]? = some (.own xs) := fun {j xs} h => by
      by_cases hj : i = j
      · subst hj
        have hl : i < env.length := by
          have := (List.getElem?_eq_some_iff.mp h).1
          rwa [List.length_set] at this
        rw [List.getElem?_set_self hl] at h
        cases h
      · rw [List.getElem?_set_ne hj] at h
        exact ⟨hj, h⟩
    obtain ⟨n1, h1⟩ := o h1
    obtain ⟨n2, h2⟩ := o h2
    rw [List.getElem?_set_ne n1] at h3
    rw [List.getElem?_set_ne n2] at h4
    exact f.apart j k p xs ys hjk h1 h2 h3 h4
theorem FOk.wipe {N : Addr → Prop} {σ : L2.St} {H : Hp} {env : SE} (f : FOk F N σ H env) : ∀ vs : List Nat, FOk F N (L2.wipe σ vs) H (wipeD env vs)
  | [] => f
  | v :: vs => (f.wipe vs).un v
/-- another wish -/
theorem FOk.wish {N : Addr → Prop} {σ : L2.St} {H : Hp} {env : SE} (f : FOk F N σ H env) (ex : XW) : FOk { F with ex := ex } N σ H env := ⟨⟨f.n.deck, f.n.ext, f.n.sub, f.n.zin, f.n.all, f.n.new, f.n.gr, f.n.tb⟩, f.len, fun i s h => by
  have q := f.slot i s h
  cases s <;> exact q, f.apart⟩
theorem FOk.unwish {N : Addr → Prop} {σ : L2.St} {H : Hp} {env : SE} {ex : XW} (f : FOk { F with ex := ex } N σ H env) : FOk F N σ H env := ⟨⟨f.n.deck, f.n.ext, f.n.sub, f.n.zin, f.n.all, f.n.new, f.n.gr, f.n.tb⟩, f.len, fun i s h => by
  have q := f.slot i s h
  cases s <;> exact q, f.apart⟩
/-- another list of the def's own comes -/
theorem FOk.with {N : Addr → Prop} {σ : L2.St} {H : Hp} {env : SE} (f : FOk F N σ H env) {p : Addr} {o : HO} (hk : Kp o) (hp : H p = none) (nb : ¬ F.B p) : FOk F (fun q => N q ∨ q = p) σ (upd H p o) env := by
  have e := f.n.lay (o := o) hp
  have f1 := f.ext' e
  have mv : ∀ r u, ¬ N r → Kp u → H r = some u → upd H p o r = some u ∧ ¬ (N r ∨ r = p) := fun r u n k h => by
    have ne := ne_of_none h hp
    exact ⟨by rw [upd_ne ne]; exact h, fun z => z.elim n ne⟩
  refine ⟨⟨f1.n.deck, f1.n.ext, fun q h => .inl (f1.n.sub q h), f1.n.zin, fun q h => ?_, fun q h n => ?_, f.n.gr.trans mv, f.n.tb⟩, f1.len, fun i s h => ?_, f1.apart⟩
  · rcases h with h | rfl
    · exact f1.n.all q h
    · exact ⟨o, upd_same, hk⟩
  · rcases h with h | rfl
    · exact f1.n.new q h n
    · exact f.n.new0 hp
  · have q := f.slot i s h
    cases s with
    | un => trivial
    | raw v => exact q
    | d x =>
      obtain ⟨v, h1, h2⟩ := q
      exact ⟨v, h1, Rep.mono mv x v h2⟩
    | own xs =>
      obtain ⟨r, vs, h1, h2, h3, h4, h5⟩ := q
      exact ⟨r, vs, h1, .inl h2, h3, by rw [upd_ne (ne_of_none h4 hp)]; exact h4, Reps.mono mv xs vs h5⟩
theorem FOk.nb {N : Addr → Prop} {σ : L2.St} {H : Hp} {env : SE} (f : FOk F N σ H env) {p : Addr} (hp : H p = none) : ¬ F.B p := fun z => f.n.fresh hp (f.n.sub p z)
/-- over the items: the target, the test, the element -/
def lcD (G : TDG) (tt : TDT) (te : TDE) (env : SE) : List D → (List D → Prop) → Prop
  | [], Q => Q []
  | d :: ds, Q => G d env fun env' => tt (fun _ _ => False) env' fun b => if b = true then te (fun _ _ => False) env' fun y => lcD G tt te env ds fun ys => Q (y :: ys) else lcD G tt te env ds Q
def dYes : TDT := fun _ _ Q => Q true
theorem dts_nil : PTs X [] (tDT F dYes) := ⟨fun pins s σ H Q I hw => pts_nil.run pins s σ H Q I (by
  obtain ⟨N, env, Qd, f, hT, k⟩ := hw
  exact k _ _ Ext.refl hT)⟩
theorem dts_one {c : Expr} {t : TDT} (h : PT X c (tDT F t)) : PTs X [c] (tDT F t) := pts_one h
end
end DL
set_option Elab.async false
set_option linter.all false
set_option maxRecDepth 100000
namespace DL
open PySem PySem.Spec L2
open PyProof.Rows hiding St
section
variable {X : Cx} {F : FP} {Ta : TDE} {Tas : TDA}
theorem FOk.with' {N : Addr → Prop} {σ : L2.St} {H H' : Hp} {env : SE} (f : FOk F N σ H env) {p : Addr} {o : HO} (hk : Kp o) (hp : H p = none) (e : Ext F.Z H H') (ho : H' p = some o) : FOk F (fun q => N q ∨ q = p) σ H' env := by
  have f1 := f.ext' e
  have mv : ∀ r u, ¬ N r → Kp u → H r = some u → H' r = some u ∧ ¬ (N r ∨ r = p) := fun r u n k h =>
    ⟨e.keep r u (fun z => n (f.n.z r z)) k h, fun z => z.elim n (ne_of_none h hp)⟩
  refine ⟨⟨f1.n.deck, f1.n.ext, fun q h => .inl (f1.n.sub q h), f1.n.zin, fun q h => ?_, fun q h n => ?_, f.n.gr.trans mv, f.n.tb⟩, f1.len, fun i s h => ?_, f1.apart⟩
  · rcases h with h | rfl
    · exact f1.n.all q h
    · exact ⟨o, ho, hk⟩
  · rcases h with h | rfl
    · exact f1.n.new q h n
    · exact f.n.new0 hp
  · have q := f.slot i s h
    cases s with
    | un => trivial
    | raw v => exact q
    | d x =>
      obtain ⟨v, h1, h2⟩ := q
      exact ⟨v, h1, Rep.mono mv x v h2⟩
    | own xs =>
      obtain ⟨r, vs, h1, h2, h3, h4, h5⟩ := q
      exact ⟨r, vs, h1, .inl h2, h3, e.keep r _ (fun z => h3 (f.n.zin r z)) kp_lst h4, Reps.mono mv xs vs h5⟩
/-- what a comprehension has made so far -/
structure LcAt (F : FP) (N : Addr → Prop) (H1 : Hp) (D : Addr) (G : TDG) (tt : TDT) (te : TDE) (env : SE) (all : List DL.D) (Qd : DL.D → Prop) (i : Nat) (H' : Hp) : Prop where
  ext : Ext F.Z H1 H'
  at_ : ∃ (acc : List V) (ds : List DL.D), H' D = some (.lst acc) ∧ acc.length ≤ i ∧ Reps F.K F.Z (fun q => N q ∨ q = D) H' ds acc ∧ lcD G tt te env (all.drop i) fun ys => Qd (.lst (ds ++ ys))
end
end DL
namespace DL
open PySem PySem.Spec L2
open PyProof.Rows hiding St
section
variable {X : Cx} {F : FP} {Ta : TDE} {Tas : TDA} {N : Addr → Prop} {σ : L2.St} {H1 H' : Hp} {env : SE} {A : Addr} {tt : TDT} {te : TDE} {all : List D} {Qd : D → Prop} {j : Nat}
abbrev FP.calm (F : FP) : FP := { F with ex := fun _ _ => False }
theorem lc_start (n : NOk F N H1) (hA : H1 A = none) {G : TDG} (h : lcD G tt te env all fun ys => Qd (.lst ys)) : LcAt F N H1 A G tt te env all Qd 0 (upd H1 A (.lst [])) :=
  ⟨n.lay hA, [], [], upd_same, Nat.le_refl _, rfl, by simpa using h⟩
theorem lc_turn (f : FOk F N σ H1 env) (hA : H1 A = none) (hz : all.length ≤ sizeLine) {i : Nat} {d : D} {x : V} (hd : all[i]? = some d) (r : Rep F.K F.Z N H1 d x) (L : LcAt F N H1 A (dgName j) tt te (wipeD env [j]) all Qd i H') :
    gName j x (L2.wipe σ [j]) H' fun σ2 H2 => L2.wipe σ2 [j] = L2.wipe σ [j] ∧ tDT F.calm tt σ2 H2 fun b H3 =>
      if b = true then tD F.calm te σ2 H3 fun y H4 => ∃ acc, H4 A = some (.lst acc) ∧ acc.length < sizeLine ∧ LcAt F N H1 A (dgName j) tt te (wipeD env [j]) all Qd (i + 1) (upd H4 A (.lst (acc ++ [y]))) else LcAt F N H1 A (dgName j) tt te (wipeD env [j]) all Qd (i + 1) H3 := by
  obtain ⟨ext, acc, ds, h1, h2, h3, h4⟩ := L
  obtain ⟨hi, e⟩ := List.getElem?_eq_some_iff.mp hd
  rw [List.drop_eq_getElem_cons hi, e] at h4
  have f1 : FOk F (fun q => N q ∨ q = A) (L2.wipe σ [j]) H' (wipeD env [j]) := (f.with' kp_lst hA ext h1).wipe [j]
  have mv : ∀ r u, ¬ N r → Kp u → H1 r = some u → H' r = some u ∧ ¬ (N r ∨ r = A) := fun r u n k h => ⟨ext.keep r u (fun z => n (f.n.z r z)) k h, fun z => z.elim n (ne_of_none h hA)⟩
  have r1 : Rep F.K F.Z (fun q => N q ∨ q = A) H' d x := Rep.mono mv d x r
  have nz : ∀ p, InZ F.Z p → p ≠ A := fun p z e => by
    obtain ⟨o, q, _⟩ := f.n.all p (f.n.z p z)
    rw [e, hA] at q; cases q
  refine ⟨by simp [L2.wipe, List.set_set], ?_⟩
  refine ⟨_, _, _, (f1.set j r1).wish _, h4, fun b H3 e3 q3 => ?_⟩
  have x3 := ext.trans e3
  have a3 : H3 A = some (.lst acc) := e3.keep A _ (fun z => nz A z rfl) kp_lst h1
  have f3 := f1.ext' e3
  by_cases hb : b = true
  · subst hb
    rw [if_pos rfl] at q3
    refine iteT ?_
    refine ⟨_, _, _, ((f1.set j r1).ext' e3).wish _, q3, fun y H4 dy e4 ry q4 => ?_⟩
    have a4 : H4 A = some (.lst acc) := e4.keep A _ (fun z => nz A z rfl) kp_lst a3
    have x4 := x3.trans e4
    refine ⟨acc, a4, by omega, ⟨fun p o n k h => ?_, fun dk => ?_⟩, acc ++ [y], ds ++ [dy], upd_same, by simp; omega, ?_, ?_⟩
    · rw [upd_ne (ne_of_none h hA)]
      exact x4.keep p o n k h
    · refine ⟨fun a l ez => ?_, fun p hp => ?_⟩
      · obtain ⟨xs, m, c, k1, k2, k3⟩ := (x4.deck dk).1 a l ez
        exact ⟨xs, m, c, by rw [upd_ne (nz a ⟨a, l, ez, .inl rfl⟩)]; exact k1, by rw [upd_ne (nz l ⟨a, l, ez, .inr rfl⟩)]; exact k2, k3⟩
      · exact tab_upd a4 kp_lst (fun _ h => by cases h) ((x4.deck dk).2 p hp)
    · have mv4 : ∀ r u, ¬ (N r ∨ r = A) → Kp u → H4 r = some u → upd H4 A (.lst (acc ++ [y])) r = some u ∧ ¬ (N r ∨ r = A) := fun r u n _ h => ⟨by rw [upd_ne (fun z => n (.inr z))]; exact h, n⟩
      have h4' : Reps F.K F.Z (fun q => N q ∨ q = A) H4 ds acc := (h3.ext e3 f1.n.z).ext e4 f1.n.z
      exact (Reps.mono mv4 _ _ h4').snoc (Rep.mono mv4 _ _ ry)
    · have : (fun ys => Qd (.lst (ds ++ [dy] ++ ys))) = fun ys => Qd (.lst (ds ++ dy :: ys)) := by
        funext ys; rw [List.append_assoc]; rfl
      rw [this]
      exact q4
  · rw [Bool.not_eq_true] at hb
    subst hb
    rw [if_neg Bool.false_ne_true] at q3
    refine iteF ?_
    exact ⟨x3, acc, ds, a3, by omega, h3.ext e3 f1.n.z, q3⟩
theorem lc_end (f : FOk F N σ H1 env) (hA : H1 A = none) {G : TDG} {H0 : Hp} {Q : VK} (e : Ext F.Z H0 H1) (k : ∀ v H' d, Ext F.Z H0 H' → Rep F.K F.Z N H' d v → Qd d → Q v H') {n : Nat} (hn : all.length = n) (L : LcAt F N H1 A G tt te (wipeD env [j]) all Qd n H') : Q (.ref A) H' := by
  obtain ⟨ext, acc, ds, h1, h2, h3, h4⟩ := L
  rw [← hn, List.drop_length] at h4
  have h4 : Qd (.lst (ds ++ [])) := h4
  rw [List.append_nil] at h4
  exact k _ _ (.lst ds) (e.trans ext) ⟨A, acc, rfl, f.n.fresh hA, h1, h3.less fun p z => .inl z⟩ h4
def dLc (T : TDE) (j : Nat) (tt : TDT) (te : TDE) : TDE := fun ξ env Q => T ξ env fun d => match d with
  | .lst ds => ds.length ≤ sizeLine ∧ lcD (dgName j) tt te (wipeD env [j]) ds fun ys => Q (.lst ys)
  | _ => False
def dLcT (T : TDE) (j : Nat) (tt : TDT) (te : TDE) : TDE := fun ξ env Q => T ξ env fun d => match d with
  | .tup ds => ds.length ≤ sizeLine ∧ lcD (dgName j) tt te (wipeD env [j]) ds fun ys => Q (.lst ys)
  | _ => False
def dLcR (T : TDA) (j : Nat) (tt : TDT) (te : TDE) : TDE := fun ξ env Q => T ξ env fun ds => match ds with
  | [.int n] => (0 ≤ n ∧ n ≤ sizeLine) ∧ lcD (dgName j) tt te (wipeD env [j]) (intsD 0 n.toNat) fun ys => Q (.lst ys)
  | _ => False
theorem lc_imp : ∀ σ H Q, tD F (dLc Ta j tt te) σ H Q → tLc (iList F.K (tD F Ta)) (gName j) (tDT F.calm tt) (tD F.calm te) [j] σ H Q := by
  rintro σ H Q ⟨N, env, Qd, f, hT, k⟩
  refine ⟨N, env, _, f, hT, fun v H1 d e1 r q => ?_⟩
  cases d <;> first | exact q.elim | skip
  rename_i ds
  obtain ⟨a, vs, rfl, na, ra, rs⟩ := r
  have f1 := f.ext' e1
  refine ⟨a, rfl, ⟨vs, SqL.of ra⟩, fun A hA => ?_⟩
  refine lc_list (K := F.K) (a := a) (xs := vs) (fun i H' => LcAt F N H1 A (dgName j) tt te (wipeD env [j]) ds Qd i H') (lc_start f1.n hA q.2) (fun i H' _ L => SqL.of (L.ext.keep a _ (fun z => na (f.n.z a z)) kp_lst ra)) (fun i x H' hx L => ?_) (fun H' L => lc_end f1 hA e1 k rs.length L)
  obtain ⟨d, hd, rd⟩ := rs.getV hx
  exact lc_turn f1 hA q.1 hd rd L
theorem lcT_imp : ∀ σ H Q, tD F (dLcT Ta j tt te) σ H Q → tLc (iTup F.K (tD F Ta)) (gName j) (tDT F.calm tt) (tD F.calm te) [j] σ H Q := by
  rintro σ H Q ⟨N, env, Qd, f, hT, k⟩
  refine ⟨N, env, _, f, hT, fun v H1 d e1 r q => ?_⟩
  cases d <;> first | exact q.elim | skip
  rename_i ds
  obtain ⟨a, vs, rfl, ra, rs⟩ := r
  have f1 := f.ext' e1
  refine ⟨a, rfl, ⟨vs, sqt_of ra⟩, fun A hA => ?_⟩
  refine lc_tup (K := F.K) (a := a) (xs := vs) (fun i H' => LcAt F N H1 A (dgName j) tt te (wipeD env [j]) ds Qd i H') (lc_start f1.n hA q.2) (fun i H' _ L => ?_) (fun i x H' hx L => ?_) (fun H' L => lc_end f1 hA e1 k rs.length L)
  · refine sqt_of (N := N) ?_
    rcases ra with ⟨n, ra⟩ | ra
    · exact .inl ⟨n, L.ext.keep a _ (fun z => n (f.n.z a z)) kp_tup ra⟩
    · exact .inr ra
  obtain ⟨d, hd, rd⟩ := rs.getV hx
  exact lc_turn f1 hA q.1 hd rd L
theorem lcR_imp : ∀ σ H Q, tD F (dLcR Tas j tt te) σ H Q → tLc (iRng1 (tDA F Tas)) (gName j) (tDT F.calm tt) (tD F.calm te) [j] σ H Q := by
  rintro σ H Q ⟨N, env, Qd, f, hT, k⟩
  refine ⟨N, env, _, f, hT, fun vs H1 ds e1 r q => ?_⟩
  split at q
  · rename_i n
    obtain ⟨v, _, rfl, r1, r2⟩ := r
    cases r2
    have f1 := f.ext' e1
    have hs : (sizeLine : Nat) < 2 ^ 62 := by rw [sizeLine_eq]; decide
    refine ⟨n, by rw [show v = _ from r1], by omega, by omega, fun A hA => ?_⟩
    refine lc_range (lo := 0) (n := n.toNat) (fun i H' => LcAt F N H1 A (dgName j) tt te (wipeD env [j]) (intsD 0 n.toNat) Qd i H') (lc_start f1.n hA q.2) (fun i H' hi L => ?_) (fun H' L => lc_end f1 hA e1 k ints_len L)
    exact lc_turn f1 hA (by rw [ints_len]; omega) (ints_get hi) rep_int L
  · exact q.elim
variable {e elt iter a : Expr} {ifs : List Expr} {scope : Scope} {own : List (Str × Nat)} {pos p pos' : Pos} {tg : Expr}
theorem d_lc (hK : F.K = X.K) (hc : X.calm = true) (hN : X.N.Nodup) (hi : PE X iter (tD F Ta)) (ok : BlkOk X.N X.env.scope scope own) (hv : own.map (·.2) = [j])
    (hg : ∀ (s : Shared) (H : Hp) (C : Addr) (cl : List (Str × Addr)) (fp : List Addr), PG (X.blk s H scope (compEnvC scope cl C X.env) fp) tg (gName j)) (ht : ∀ (s : Shared) (H : Hp) (C : Addr) (cl : List (Str × Addr)) (fp : List Addr), PTs (X.blk s H scope (compEnvC scope cl C X.env) fp) ifs (tDT F.calm tt))
    (he : ∀ (s : Shared) (H : Hp) (C : Addr) (cl : List (Str × Addr)) (fp : List Addr), PE (X.blk s H scope (compEnvC scope cl C X.env) fp) elt (tD F.calm te)) (hs : ∀ x, foldedSetIterable iter X.env x = pure x := by intro _; rfl) :
    PE X (.ListComp elt [⟨tg, iter, ifs, 0⟩] scope pos) (tD F (dLc Ta j tt te)) := by
  have z := pe_lc (pos := pos) hc hN (pi_list hi) ok hg ht he hs
  rw [hv] at z
  exact PE.imp z (by rw [← hK]; exact lc_imp)
theorem d_lcT (hK : F.K = X.K) (hc : X.calm = true) (hN : X.N.Nodup) (hi : PE X iter (tD F Ta)) (ok : BlkOk X.N X.env.scope scope own) (hv : own.map (·.2) = [j])
    (hg : ∀ (s : Shared) (H : Hp) (C : Addr) (cl : List (Str × Addr)) (fp : List Addr), PG (X.blk s H scope (compEnvC scope cl C X.env) fp) tg (gName j)) (ht : ∀ (s : Shared) (H : Hp) (C : Addr) (cl : List (Str × Addr)) (fp : List Addr), PTs (X.blk s H scope (compEnvC scope cl C X.env) fp) ifs (tDT F.calm tt))
    (he : ∀ (s : Shared) (H : Hp) (C : Addr) (cl : List (Str × Addr)) (fp : List Addr), PE (X.blk s H scope (compEnvC scope cl C X.env) fp) elt (tD F.calm te)) (hs : ∀ x, foldedSetIterable iter X.env x = pure x := by intro _; rfl) :
    PE X (.ListComp elt [⟨tg, iter, ifs, 0⟩] scope pos) (tD F (dLcT Ta j tt te)) := by
  have z := pe_lc (pos := pos) hc hN (pi_tup hi) ok hg ht he hs
  rw [hv] at z
  exact PE.imp z (by rw [← hK]; exact lcT_imp)
theorem d_lcR (hK : F.K = X.K) (hc : X.calm = true) (hN : X.N.Nodup) (hgl : Gl X "range") (hm : X.mg "range" = none) (ha : PA X [a] (tDA F Tas)) (ok : BlkOk X.N X.env.scope scope own) (hv : own.map (·.2) = [j])
    (hg : ∀ (s : Shared) (H : Hp) (C : Addr) (cl : List (Str × Addr)) (fp : List Addr), PG (X.blk s H scope (compEnvC scope cl C X.env) fp) tg (gName j)) (ht : ∀ (s : Shared) (H : Hp) (C : Addr) (cl : List (Str × Addr)) (fp : List Addr), PTs (X.blk s H scope (compEnvC scope cl C X.env) fp) ifs (tDT F.calm tt))
    (he : ∀ (s : Shared) (H : Hp) (C : Addr) (cl : List (Str × Addr)) (fp : List Addr), PE (X.blk s H scope (compEnvC scope cl C X.env) fp) elt (tD F.calm te)) (hsa : starEach [a] X.env = [(false, eval a X.env)] := by rfl) (hs : ∀ x, foldedSetIterable (.Call (.Name "range" p) [a] [] pos') X.env x = pure x := by intro _; rfl) :
    PE X (.ListComp elt [⟨tg, .Call (.Name "range" p) [a] [] pos', ifs, 0⟩] scope pos) (tD F (dLcR Tas j tt te)) := by
  have z := pe_lc (pos := pos) hc hN (pi_range1 hgl hm ha hsa) ok hg ht he hs
  rw [hv] at z
  exact PE.imp z lcR_imp
end
end DL
set_option Elab.async false
set_option linter.all false
set_option maxRecDepth 100000
namespace DL
open PySem PySem.Spec L2
open PyProof.Rows hiding St
section
variable {X : Cx} {F : FP} {Ta Tb : TDE} {Tas : TDA} {e a b c : Expr} {es : List Expr} {pos : Pos} {st : Stmt}

theorem PS.or {t u : TS} (h1 : PS X st t) (h2 : PS X st u) : PS X st (fun De σ H => t De σ H ∨ u De σ H) := ⟨fun pins s σ H De I h => h.elim (h1.run pins s σ H De I) (h2.run pins s σ H De I)⟩
theorem PE.or {t u : TE} (h1 : PE X e t) (h2 : PE X e u) : PE X e (fun σ H Q => t σ H Q ∨ u σ H Q) := ⟨fun pins s σ H Q I h => h.elim (h1.run pins s σ H Q I) (h2.run pins s σ H Q I)⟩
/-- for x in name: a list or a tuple -/
def seqD : Option Slot → Option (List D)
  | some (.d (.tup ds)) => some ds
  | some (.d (.lst ds)) => some ds
  | _ => none
def dForV (i : Nat) (G : TDG) (B : TDS) : TDS := fun ξ De env => match seqD env[i]? with
  | some ds => forD G B ξ De ds env
  | none => False
theorem seqD_of {o : Option Slot} {ds : List D} (h : seqD o = some ds) : o = some (.d (.tup ds)) ∨ o = some (.d (.lst ds)) := by
  unfold seqD at h
  split at h
  · cases h; exact .inl rfl
  · cases h; exact .inr rfl
  · cases h
theorem ds_forV {i : Nat} {tg iter : Expr} {body : List Stmt} {G : TDG} {B : TDS} (hK : F.K = X.K) (hp : PassesOwn (model X.prog X.w) X.A X.env X.xe) (hc : X.calm = true) (hi : PE X iter (tVar i)) (hg : PG X tg (gD F G)) (hb : PSs X body (sD F B))
    (hs : ∀ x, foldedSetIterable iter X.env x = pure x := by intro _; rfl) : PS X (.For tg iter body [] pos) (sD F (dForV i G B)) :=
  PS.imp (PS.or (ds_for (pos := pos) hK hp hc (d_var hi) hg hb hs) (ds_forT (pos := pos) hK hp hc (d_var hi) hg hb hs)) (by
  rintro De σ H ⟨N, env, Dd, f, hT, ok⟩
  unfold dForV at hT
  split at hT
  · rename_i ds hd
    rcases seqD_of hd with e | e
    · refine .inr ⟨N, env, Dd, f, ?_, ok⟩
      unfold dForT dVar
      rw [e]
      exact hT
    · refine .inl ⟨N, env, Dd, f, ?_, ok⟩
      unfold dFor dVar
      rw [e]
      exact hT
  · exact hT.elim)
def dLcV (i j : Nat) (tt : TDT) (te : TDE) : TDE := fun ξ env Q => match seqD env[i]? with
  | some ds => ds.length ≤ sizeLine ∧ lcD (dgName j) tt te (wipeD env [j]) ds fun ys => Q (.lst ys)
  | none => False
theorem d_lcV {i j : Nat} {tt : TDT} {te : TDE} {elt iter tg : Expr} {ifs : List Expr} {scope : Scope} {own : List (Str × Nat)} (hK : F.K = X.K) (hc : X.calm = true) (hN : X.N.Nodup) (hi : PE X iter (tVar i)) (ok : BlkOk X.N X.env.scope scope own) (hv : own.map (·.2) = [j])
    (hg : ∀ (s : Shared) (H : Hp) (C : Addr) (cl : List (Str × Addr)) (fp : List Addr), PG (X.blk s H scope (compEnvC scope cl C X.env) fp) tg (gName j)) (ht : ∀ (s : Shared) (H : Hp) (C : Addr) (cl : List (Str × Addr)) (fp : List Addr), PTs (X.blk s H scope (compEnvC scope cl C X.env) fp) ifs (tDT F.calm tt))
    (he : ∀ (s : Shared) (H : Hp) (C : Addr) (cl : List (Str × Addr)) (fp : List Addr), PE (X.blk s H scope (compEnvC scope cl C X.env) fp) elt (tD F.calm te)) (hs : ∀ x, foldedSetIterable iter X.env x = pure x := by intro _; rfl) :
    PE X (.ListComp elt [⟨tg, iter, ifs, 0⟩] scope pos) (tD F (dLcV i j tt te)) :=
  PE.imp (PE.or (d_lc (pos := pos) hK hc hN (d_var hi) ok hv hg ht he hs) (d_lcT (pos := pos) hK hc hN (d_var hi) ok hv hg ht he hs)) (by
  rintro σ H Q ⟨N, env, Qd, f, hT, k⟩
  unfold dLcV at hT
  split at hT
  · rename_i ds hd
    rcases seqD_of hd with e | e
    · refine .inr ⟨N, env, Qd, f, ?_, k⟩
      unfold dLcT dVar
      rw [e]
      exact hT
    · refine .inl ⟨N, env, Qd, f, ?_, k⟩
      unfold dLc dVar
      rw [e]
      exact hT
  · exact hT.elim)

/-! ### isinstance(x, T) -/
def gIs (T : PyT) : G1 := fun x Q => typed x = true ∧ Q (.bl (isD T x))
theorem d_isi {T : PyT} {p p2 : Pos} {ty : Str} (hK : F.K = X.K) (hg : Gl X "isinstance") (hm : X.mg "isinstance" = none) (hg2 : Gl X ty) (hm2 : X.mg ty = none) (hv2 : bootBuiltins ty = some (.type T.name)) (ha : PE X a (tD F Ta)) (hn2 : ty ≠ "__name__" := by decide) (hd2 : (ty == ("__debug__" : Str)) = false := by decide)
    (he : starEach [a, .Name ty p2] X.env = (false, eval a X.env) :: starEach [.Name ty p2] X.env := by rfl) (he2 : starEach [.Name ty p2] X.env = (false, eval (.Name ty p2) X.env) :: starEach [] X.env := by rfl) (hpl : (backTo pos (starEach [.Name ty p2] X.env)).any (·.1) = false := by rfl) :
    PE X (.Call (.Name "isinstance" p) [a, .Name ty p2] [] pos) (tD F (dUn (gIs T) Ta)) :=
  PE.imp (pe_callB call_isi hg hm (by decide +kernel) (pa_cons ha (pa_cons (pe_bltn (v := .ty T.name) hg2 hm2 hv2 rfl hn2 hd2) pa_nil he2) he) (by decide) (by decide) he hpl) (by
  rintro σ H Q ⟨N, env, Qd, f, hT, k⟩
  refine ⟨N, env, _, f, hT, fun v H1 d e1 r q => ?_⟩
  obtain ⟨t, h3, h4⟩ := tyx_of q.1 r
  rw [hK] at h3 h4
  exact ⟨v, _, _, _, _, rfl, .ty _, h3, h4 T, k _ _ _ e1 rep_bl q.2⟩)

/-! ### repr -/
def showOk (d : D) : Prop := plain d = true ∧ (toP d).showable = true ∧ (toP d).hasDict = false ∧ (toP d).depth ≤ 64 ∧ ((toP d).shown).length ≤ sizeLine
def gRepr : GA := fun xs Q => match xs with
  | [d] => showOk d ∧ Q (.str (toP d).shown)
  | _ => False
def rRepr (K : PySem.W.Frag) : List V → Hp → VK → Prop := fun vs H Q => ∃ v d, vs = [v] ∧ Dp K H v d ∧ d.showable = true ∧ d.hasDict = false ∧ d.depth ≤ 64 ∧ d.shown.length ≤ sizeLine ∧ Q (.str d.shown) H
theorem cr_repr (hg : X.A.guards = some []) (hu : X.A.units + 80 < cLine) : CallR X (.builtin "repr") (rRepr X.K) := by
  intro pins s σ H vs us Q I r h
  obtain ⟨v, d, rfl, dp, h1, h2, h3, h4, q⟩ := h
  obtain ⟨u, rfl, rv⟩ := vals1 r
  obtain ⟨as, rd⟩ := Dp.reads I d v u dp rv
  cases rd with
  | none => exact PySem.P.repr_of_none ⟨.str _, H, I.tok _, ⟨_, rfl⟩, q⟩
  | bool b => exact PySem.P.repr_of_bool ⟨.str _, H, I.tok _, ⟨_, rfl⟩, q⟩
  | int i t => exact PySem.P.repr_of_int (of_decide_eq_true h1) ⟨.str _, H, I.tok _, ⟨_, rfl⟩, q⟩
  | str x t => exact PySem.P.repr_of_str ⟨.str _, H, I.tok _, ⟨_, rfl⟩, q⟩ h4
  | list e1 e2 e3 e4 =>
    exact repr_of_reads' (h₀ := s.heap) (.list e1 e2 e3 e4) h1 (fun z => by rw [h2] at z; cases z) hg (by omega) (fun _ _ z => z) (fun h' u tk hk => ⟨.str _, H, I.kept (t' := tk) hk, ⟨_, rfl⟩, q⟩) h4
  | tuple e1 e2 e3 e4 =>
    exact repr_of_reads' (h₀ := s.heap) (.tuple e1 e2 e3 e4) h1 (fun z => by rw [h2] at z; cases z) hg (by omega) (fun _ _ z => z) (fun h' u tk hk => ⟨.str _, H, I.kept (t' := tk) hk, ⟨_, rfl⟩, q⟩) h4
  | dict e1 e2 e3 e4 e5 => cases h2
theorem cd_repr : CallD F (rRepr F.K) gRepr := ⟨by
  intro N H vs ds Qd Q n r h k
  unfold gRepr at h
  split at h
  · rename_i d
    obtain ⟨v, r, rfl, h1, h2⟩ := r
    cases h2
    obtain ⟨⟨p, s1, s2, s3, s4⟩, q⟩ := h
    exact ⟨v, toP d, rfl, Rep.dp d v p h1, s1, s2, s3, s4, k _ _ _ Ext.refl rep_str q⟩
  · exact h.elim⟩
theorem d_repr {p : Pos} (hK : F.K = X.K) (hgd : X.A.guards = some []) (hu : X.A.units + 80 < cLine) (hg : Gl X "repr") (hm : X.mg "repr" = none) (ha : PA X (e :: es) (tDA F Tas))
    (he : starEach (e :: es) X.env = (false, eval e X.env) :: starEach es X.env := by rfl) (hpl : (backTo pos (starEach es X.env)).any (·.1) = false := by rfl) : PE X (.Call (.Name "repr" p) (e :: es) [] pos) (tD F (dCB gRepr Tas)) := by
  have z := cd_repr (F := F)
  rw [hK] at z
  exact d_callB z (cr_repr hgd hu) hg hm (by decide +kernel) ha (by decide) (by decide) he hpl

/-! ### isqrt -/
def gIsqrt : GA := fun xs Q => match xs with
  | [.int i] => (0 ≤ i ∧ i.toNat.log2 < 13500) ∧ ∀ r : Int, 0 ≤ r → r * r ≤ i → i < (r + 1) * (r + 1) → Q (.int r)
  | _ => False
def rIsqrt : List V → Hp → VK → Prop := fun vs H Q => ∃ i : Int, vs = [.int i] ∧ (0 ≤ i ∧ i.toNat.log2 < 13500) ∧ ∀ r : Int, 0 ≤ r → r * r ≤ i → i < (r + 1) * (r + 1) → Q (.int r) H
theorem cr_isqrt : CallR X (.builtin "math.isqrt") rIsqrt := by
  intro pins s σ H vs us Q I r h
  obtain ⟨i, rfl, ⟨h0, h1⟩, q⟩ := h
  obtain ⟨u, rfl, t, rfl⟩ := vals1 r
  have z := PySem.W.mg_run_isqrt i t (by omega) (by omega) (by omega)
  obtain ⟨z1, z2⟩ := Float64.isqrt_spec i.toNat
  refine call_function_meets PySem.W.MGF.kind_isqrt PySem.W.MGF.plain_isqrt PySem.W.MGF.entry_isqrt (PySem.W.MGF.args_isqrt _) z.meets ?_
  refine ⟨.int _, H, I.tok _, ⟨_, rfl⟩, q _ (Int.natCast_nonneg _) ?_ ?_⟩
  · have : ((Float64.isqrt i.toNat * Float64.isqrt i.toNat : Nat) : Int) ≤ (i.toNat : Int) := Int.ofNat_le.mpr z1
    rw [Int.toNat_of_nonneg h0, Int.natCast_mul] at this
    exact this
  · have : ((i.toNat : Nat) : Int) < (((Float64.isqrt i.toNat + 1) * (Float64.isqrt i.toNat + 1) : Nat) : Int) := Int.ofNat_lt.mpr z2
    rw [Int.toNat_of_nonneg h0, Int.natCast_mul] at this
    exact this
theorem cd_isqrt : CallD F rIsqrt gIsqrt := ⟨by
  intro N H vs ds Qd Q n r h k
  unfold gIsqrt at h
  split at h
  · obtain ⟨v, r, rfl, h1, h2⟩ := r
    cases h2
    exact ⟨_, by rw [show v = _ from h1], h.1, fun r h1 h2 h3 => k _ _ _ Ext.refl rep_int (h.2 r h1 h2 h3)⟩
  · exact h.elim⟩
theorem d_callBf {x : Str} {p : Pos} {bid : String} {r : List V → Hp → VK → Prop} {g : GA} (hg' : CallD F r g) (hc : CallR X (.builtin bid) r) (hg : Gl X x) (hm : X.mg x = some (.builtin bid)) (ha : PA X (e :: es) (tDA F Tas)) (hdb : (x == ("__debug__" : Str)) = false := by decide)
    (he : starEach (e :: es) X.env = (false, eval e X.env) :: starEach es X.env := by rfl) (hpl : (backTo pos (starEach es X.env)).any (·.1) = false := by rfl) : PE X (.Call (.Name x p) (e :: es) [] pos) (tD F (dCB g Tas)) :=
  PE.imp (pe_callBfun hc hg hm ha hdb he hpl) (tCB_imp hg')

/-! ### two or three names at once -/
theorem ds_par {i j : Nat} {x y : Str} {px py pt : Pos} {kt k2 pt2} (hc : X.calm = true) (hN : X.N.Nodup) (hi : X.N[i]? = some x) (hj : X.N[j]? = some y) (hij : i ≠ j)
    (hx : X.env.scope.names.lookup x = some .local) (hy : X.env.scope.names.lookup y = some .local) (ha : PA X [a, b] (tDA F Tas)) (hw : swappedStores [.Tuple [.Name x px, .Name y py] kt pt] (.Tuple [a, b] k2 pt2) X.env = pure (some [x, y]) := by rfl)
    (hs : swapsWithSole [.Tuple [.Name x px, .Name y py] kt pt] (.Tuple [a, b] k2 pt2) pos.line X.env = pure false := by rfl) : PS X (.Assign [.Tuple [.Name x px, .Name y py] kt pt] (.Tuple [a, b] k2 pt2) pos) (sD F (dPar i j Tas)) :=
  PS.imp (ps_par hc hN hi hj hij hx hy ha hw hs) tPar_imp
theorem ds_par3 {i j l : Nat} {x y z : Str} {px py pz pt : Pos} {kt k2 pt2} (hc : X.calm = true) (hN : X.N.Nodup) (hi : X.N[i]? = some x) (hj : X.N[j]? = some y) (hl : X.N[l]? = some z) (hij : i ≠ j) (hil : i ≠ l) (hjl : j ≠ l)
    (hx : X.env.scope.names.lookup x = some .local) (hy : X.env.scope.names.lookup y = some .local) (hz : X.env.scope.names.lookup z = some .local) (ha : PA X [a, b, c] (tDA F Tas))
    (hw : swappedStores [.Tuple [.Name x px, .Name y py, .Name z pz] kt pt] (.Tuple [a, b, c] k2 pt2) X.env = pure (some [x, y, z]) := by rfl)
    (hs : swapsWithSole [.Tuple [.Name x px, .Name y py, .Name z pz] kt pt] (.Tuple [a, b, c] k2 pt2) pos.line X.env = pure false := by rfl) : PS X (.Assign [.Tuple [.Name x px, .Name y py, .Name z pz] kt pt] (.Tuple [a, b, c] k2 pt2) pos) (sD F (dPar3 i j l Tas)) :=
  PS.imp (ps_par3 hc hN hi hj hl hij hil hjl hx hy hz ha hw hs) tPar3_imp
end
theorem kb_of {K : PySem.W.Frag} {x qual : Str} {params : Arguments} {body : List Stmt} {scope : Scope} {kws : List (Str × V)} {f : Addr} {fd : FuncData} {ps ks : List Str} {idx : List Nat} (F : FunD K x qual params body scope [] kws f fd)
    (h : ∀ (kV doc pm : Value) (an : Option Addr) (cdv ct : Value) (ws : List Value), ws.length = ks.length → bindArgs (PySem.W.fnOf x qual params body scope .none kV doc pm an cdv ct) ⟨[], ks.zip ws⟩ = pure (ps.zip (perm idx ws))) : KB fd ps ks idx := by
  obtain ⟨oc, od, dV, kV, doc, pm, an, cdv, ct, osl, rfl, lk, hcd, hD, hK⟩ := F.ex
  rcases hD with ⟨_, rfl⟩ | ⟨e, _⟩
  · exact fun s ws hl => .of_eq (h kV doc pm an cdv ct ws hl)
  · exact absurd rfl e
end DL
set_option Elab.async false
set_option linter.all false
set_option maxRecDepth 100000
namespace DL
open PySem PySem.Spec L2
open PyProof.Rows hiding St

/-! ### a text of nines, and the number that it tells -/
def nine (n : Nat) : Str := ⟨(List.replicate n ((Str.ofString "9").cps)).foldl (· ++ ·) #[]⟩
theorem nine_fold (n : Nat) : ∀ acc : Array Nat, ((List.replicate n ((Str.ofString "9").cps)).foldl (· ++ ·) acc).toList = acc.toList ++ List.replicate n 57 := by
  induction n with
  | zero => intro acc; simp
  | succ n ih =>
    intro acc
    rw [List.replicate_succ, List.foldl_cons, ih]
    have e : (Str.ofString "9").cps = #[57] := by decide +kernel
    rw [e, Array.toList_append, List.append_assoc]
    rfl
theorem nine_cps (n : Nat) : (nine n).cps.toList = List.replicate n 57 := by
  unfold nine
  rw [nine_fold]
  rfl
theorem nine_len (n : Nat) : (nine n).length = n := by
  have : (nine n).cps.size = (nine n).cps.toList.length := Array.length_toList.symm
  show (nine n).cps.size = n
  rw [this, nine_cps, List.length_replicate]
open NumText in
theorem nines_digits (n : Nat) : ∀ (acc : Array Nat) (b : Bool), (List.replicate (n + 1) 57).foldlM (step 10) (acc, b) = some (acc ++ (List.replicate (n + 1) 9).toArray, true) := by
  induction n with
  | zero =>
    intro acc b
    have e : step 10 (acc, b) 57 = some (acc.push 9, true) := rfl
    rw [List.replicate_succ, List.foldlM_cons, e]
    simp
  | succ n ih =>
    intro acc b
    have e : step 10 (acc, b) 57 = some (acc.push 9, true) := rfl
    rw [List.replicate_succ, List.foldlM_cons, e]
    show (List.replicate (n + 1) 57).foldlM (step 10) (acc.push 9, true) = _
    rw [ih]
    congr 2
    rw [List.replicate_succ (n := n + 1)]
    apply Array.ext'
    simp
theorem nines_value (n : Nat) : ∀ acc : Nat, (List.replicate n 9).foldl (fun acc d => acc * 10 + d) acc + 1 = (acc + 1) * 10 ^ n := by
  induction n with
  | zero => intro acc; simp
  | succ n ih =>
    intro acc
    rw [List.replicate_succ, List.foldl_cons, ih, Nat.pow_succ]
    rw [Nat.mul_comm (10 ^ n) 10, ← Nat.mul_assoc]
    congr 1
    omega
open NumText in
theorem nine_int (n : Nat) (h : n + 1 ≤ 4300) : intText? (nine (n + 1)) = some ((10 : Int) ^ (n + 1) - 1) := by
  have hall : ((nine (n + 1)).cps.all (· < 128)) = true := by
    rw [← Array.all_toList, nine_cps, List.all_eq_true]
    intro x hx
    rw [(List.mem_replicate.mp hx).2]
    rfl
  have e1 : numTextOf (nine (n + 1)) = List.replicate (n + 1) 57 := by
    unfold numTextOf
    rw [if_pos hall, nine_cps]
  have e2 : numSeenOf (nine (n + 1)) = List.replicate (n + 1) 57 := by
    unfold numSeenOf
    rw [e1, List.takeWhile_replicate]
    rfl
  have e3 : (List.replicate (n + 1) 57).dropWhile blank = List.replicate (n + 1) 57 := by
    rw [List.replicate_succ, List.dropWhile_cons]
    rfl
  have e4 : sign (List.replicate (n + 1) 57) = (false, List.replicate (n + 1) 57) := by
    rw [List.replicate_succ]
    rfl
  have e5 : core (List.replicate (n + 1) 57) = List.replicate (n + 1) 57 := by
    unfold core
    rw [e3, e4]
    show ((List.replicate (n + 1) 57).reverse.dropWhile blank).reverse = _
    rw [List.reverse_replicate, e3, List.reverse_replicate]
  unfold intText?
  rw [e1, e2, e3, e4, e5]
  rw [if_pos (by simp)]
  have e6 : digits? 10 (List.replicate (n + 1) 57) = some (List.replicate (n + 1) 9).toArray := by
    unfold digits?
    rw [nines_digits]
    simp
  rw [e6]
  show (if (List.replicate (n + 1) 9).toArray.size ≤ 4300 then some (worth false (List.replicate (n + 1) 9).toArray) else none) = _
  rw [if_pos (by simpa using h)]
  congr 1
  unfold worth
  rw [if_neg Bool.false_ne_true]
  have v := nines_value (n + 1) 0
  rw [List.foldl_toArray]
  have : ((List.replicate (n + 1) 9).foldl (fun acc d => acc * 10 + d) 0 : Nat) = 10 ^ (n + 1) - 1 := by omega
  rw [this]
  have p : 1 ≤ 10 ^ (n + 1) := Nat.one_le_pow _ _ (by decide)
  rw [Int.natCast_sub p]
  simp
section
variable {X : Cx} {F : FP} {Ta Tb : TDE} {Tas : TDA} {e a b c : Expr} {es : List Expr} {pos : Pos} {st : Stmt}
def rNine : R2 := fun x y H Q => ∃ n : Int, x = .str "9" ∧ y = .int n ∧ (2 ≤ n ∧ n ≤ 10000) ∧ Q (.str (nine n.toNat)) H
theorem op_nine : OpR X (binaryOp .Mult) rNine := by
  intro pins s σ H x y v u Q I rx ry h
  obtain ⟨n, rfl, rfl, ⟨h1, h2⟩, q⟩ := h
  obtain ⟨t, rfl⟩ := rx
  obtain ⟨t', rfl⟩ := ry
  have l1 : ("9" : Str).length = 1 := by decide +kernel
  have c1 : (n == 1 || ("9" : Str).length == 0) = false := by
    rw [l1]
    have : (n == 1) = false := by rw [beq_eq_false_iff_ne]; omega
    rw [this]; rfl
  refine PySem.P.mul_str ?_ ?_ ?_ ?_
  · rw [decide_eq_false (by omega), decide_eq_false (by omega)]; rfl
  · intro _ _ z
    rw [l1] at z
    have hd : 10000 ≤ (2 ^ 63 - 1) / n := by
      rw [Int.le_ediv_iff_mul_le (by omega)]
      omega
    omega
  · intro _ _
    unfold Builtin.Str.tooLong
    rw [l1, sizeLine_eq]
    exact decide_eq_false (by omega)
  · rw [if_neg (by omega), if_neg (by rw [c1]; exact Bool.false_ne_true)]
    have hl : (nine n.toNat).length ≤ sizeLine := by rw [nine_len, sizeLine_eq]; omega
    exact ⟨hl, ⟨.str (nine n.toNat), H, I.tok _, ⟨_, rfl⟩, q⟩⟩
def gNines : G1 := fun x Q => match x with
  | .int n => (2 ≤ n ∧ n ≤ 640) ∧ Q (.int (10 ^ n.toNat - 1))
  | _ => False
theorem d_nines {k : Nat} {p p1 p2 : Pos} {n : Expr} (hg : Gl X "int") (hm : X.mg "int" = none) (hn : PE X n (tD F Ta)) (he : starEach [.BinOp (.Constant (.str "9") k p1) .Mult n p2] X.env = (false, eval (.BinOp (.Constant (.str "9") k p1) .Mult n p2) X.env) :: starEach [] X.env := by rfl)
    (hpl : (backTo pos (starEach [] X.env)).any (·.1) = false := by rfl) : PE X (.Call (.Name "int" p) [.BinOp (.Constant (.str "9") k p1) .Mult n p2] [] pos) (tD F (dUn gNines Ta)) :=
  PE.imp (pe_callTy call_int_str hg hm (by decide +kernel) (pa_cons (pe_op op_nine pe_str hn) pa_nil he) (by decide) (by decide) he hpl) (by
  rintro σ H Q ⟨N, env, Qd, f, hT, k⟩
  refine ⟨N, env, _, f, hT, fun v H1 d e1 r q => ?_⟩
  cases d <;> first | exact q.elim | skip
  rename_i n
  obtain ⟨⟨h1, h2⟩, q⟩ := q
  refine ⟨n, rfl, r, ⟨h1, by omega⟩, ?_⟩
  obtain ⟨m, hm⟩ : ∃ m, n.toNat = m + 1 := ⟨n.toNat - 1, by omega⟩
  refine ⟨nine n.toNat, _, rfl, ?_, by rw [nine_len]; omega, k _ _ _ e1 rep_int q⟩
  rw [hm]
  exact nine_int m (by omega))
end
end DL
set_option Elab.async false
set_option linter.all false
set_option maxRecDepth 100000
namespace DL
open PySem PySem.Spec L2
open PyProof.Rows hiding St
/-! ### the deck -/
/-- a draw: some number below the given one -/
def tf_draw : TF := fun _ ds Q => match ds with
  | [.deck, .int n] => (0 < n ∧ n < 1000000000) ∧ ∀ r : Int, 0 ≤ r → r < n → Q (.int r)
  | _ => False
theorem draw_reps {K : PySem.W.Frag} {Z : Zn} {B : Addr → Prop} {H : Hp} {ds : List D} {vs : List V} {Qd : D → Prop} (r : Reps K Z B H ds vs) (h : tf_draw (fun _ => False) ds Qd) :
    ∃ a l n, Z.deck = some (a, l) ∧ vs = [.ref a, .int n] ∧ (0 < n ∧ n < 1000000000) ∧ ∀ r : Int, 0 ≤ r → r < n → Qd (.int r) := by
  unfold tf_draw at h
  split at h
  · obtain ⟨v, _, rfl, ⟨a, l, hz, rfl⟩, w, _, rfl, rfl, h4⟩ := r
    cases h4
    exact ⟨a, l, _, hz, rfl, h⟩
  · exact h.elim
theorem kvs_m {l : Addr} {m k : Int} : valV (deckKvs l m k) (.inr ("mixed" : Str)) = some (.int m) := rfl
theorem kvs_l {l : Addr} {m k : Int} : valV (deckKvs l m k) (.inr ("left" : Str)) = some (.ref l) := rfl
theorem kvs_d {l : Addr} {m k : Int} : valV (deckKvs l m k) (.inr ("draws" : Str)) = some (.int k) := rfl
theorem kvs_put {l : Addr} {m k j : Int} : putK (deckKvs l m k) (.inr ("draws" : Str)) (.int j) = deckKvs l m j := rfl
theorem dg_m {H : Hp} {a l : Addr} {m k : Int} (h : H a = some (.dK (deckKvs l m k))) : DGet H a (.str "mixed") (some (.int m)) := kvs_m (l := l) (m := m) (k := k) ▸ DGet.k (k := .inr "mixed") h
theorem dg_l {H : Hp} {a l : Addr} {m k : Int} (h : H a = some (.dK (deckKvs l m k))) : DGet H a (.str "left") (some (.ref l)) := kvs_l (l := l) (m := m) (k := k) ▸ DGet.k (k := .inr "left") h
theorem dg_d {H : Hp} {a l : Addr} {m k : Int} (h : H a = some (.dK (deckKvs l m k))) : DGet H a (.str "draws") (some (.int k)) := kvs_d (l := l) (m := m) (k := k) ▸ DGet.k (k := .inr "draws") h
theorem dp_d {H : Hp} {a l : Addr} {m k j : Int} (h : H a = some (.dK (deckKvs l m k))) : DPut H a (.str "draws") (.int j) (upd H a (.dK (deckKvs l m j))) :=
  kvs_put (l := l) (m := m) (k := k) (j := j) ▸ DPut.k (k := .inr "draws") (v := .int j) h (by rw [sizeLine_eq]; show 3 < _; omega)
/-- the heap behind some steps of a draw -/
structure Dk (a l : Addr) (H H' : Hp) (m k : Int) (xs : List Int) : Prop where
  keep : ∀ p o, p ≠ a → p ≠ l → H p = some o → H' p = some o
  dict : H' a = some (.dK (deckKvs l m k))
  list : H' l = some (.lst (xs.map V.int))
  ne : a ≠ l
  tabs : ∀ P q, LamX.TabS H P q → LamX.TabS H' P q
theorem Dk.ext {a l : Addr} {H H' : Hp} {m k : Int} {xs : List Int} (d : Dk a l H H' m k xs) (h : xs.length ≤ 63) {Z : Zn} (hz : Z.deck = some (a, l)) : Ext Z H H' :=
  ⟨fun p o n _ e => d.keep p o (fun z => n ⟨a, l, hz, .inl z⟩) (fun z => n ⟨a, l, hz, .inr z⟩) e, fun dk => ⟨fun a' l' e => by rw [hz] at e; cases e; exact ⟨xs, m, k, d.dict, d.list, h⟩, fun p hp => d.tabs _ _ (dk.2 p hp)⟩⟩
theorem Dk.new {a l p : Addr} {o : HO} {H H' : Hp} {m k : Int} {xs : List Int} (d : Dk a l H H' m k xs) (hp : H' p = none) : Dk a l H (upd H' p o) m k xs :=
  ⟨fun q u n1 n2 e => by rw [upd_ne (ne_of_none (d.keep q u n1 n2 e) hp)]; exact d.keep q u n1 n2 e, by rw [upd_ne (ne_of_none d.dict hp)]; exact d.dict, by rw [upd_ne (ne_of_none d.list hp)]; exact d.list, d.ne, fun P q t => (d.tabs P q t).ext fun b u e => by rw [upd_ne (ne_of_none e hp)]; exact e⟩
theorem Dk.put {a l : Addr} {H H' : Hp} {m k j : Int} {xs : List Int} (d : Dk a l H H' m k xs) : Dk a l H (upd H' a (.dK (deckKvs l m j))) m j xs :=
  ⟨fun q u n1 n2 e => by rw [upd_ne n1]; exact d.keep q u n1 n2 e, upd_same, by rw [upd_ne d.ne.symm]; exact d.list, d.ne, fun P q t => tab_upd d.dict kp_dk (fun _ h => by cases h) (d.tabs P q t)⟩
theorem Dk.set {a l : Addr} {H H' : Hp} {m k : Int} {xs ys : List Int} (d : Dk a l H H' m k xs) : Dk a l H (upd H' l (.lst (ys.map V.int))) m k ys :=
  ⟨fun q u n1 n2 e => by rw [upd_ne n2]; exact d.keep q u n1 n2 e, by rw [upd_ne d.ne]; exact d.dict, upd_same, d.ne, fun P q t => tab_upd d.list kp_lst (fun _ h => by cases h) (d.tabs P q t)⟩
theorem dp_ints {K : PySem.W.Frag} {H : Hp} : ∀ (xs : List Int), DpAll K H (xs.map V.int) (xs.map PyData.int)
  | [] => .nil
  | x :: xs => .cons (.int x) (dp_ints xs)
theorem shaped_ints (xs : List Int) : SeqAt.shaped (.list (xs.map PyData.int)) = true := by
  have h1 : ∀ xs : List Int, PyData.canLayAll0 (xs.map PyData.int) = true := fun xs => by
    induction xs with
    | nil => rfl
    | cons x xs ih => simpa [PyData.canLayAll0, PyData.canLay0] using ih
  have h2 : ∀ xs : List Int, PyData.depthAll (xs.map PyData.int) ≤ 1 := fun xs => by
    induction xs with
    | nil => simp [PyData.depthAll]
    | cons x xs ih => simp only [List.map_cons, PyData.depthAll, PyData.depth]; omega
  have := h2 xs
  unfold SeqAt.shaped
  rw [Bool.and_eq_true]
  refine ⟨by simpa [PyData.canLay0] using h1 xs, decide_eq_true ?_⟩
  simp only [PyData.depth]
  omega
theorem eqv_ints_nil : ∀ xs : List Int, (!PyData.eqv (.list (xs.map PyData.int)) (.list [])) = !xs.isEmpty
  | [] => rfl
  | x :: xs => rfl
theorem last_of (xs : List Int) : xs = [] ∨ ∃ (ys : List Int) (y : Int), xs = ys ++ [y] := by
  rcases List.eq_nil_or_concat xs with h | ⟨l, b, h⟩
  · exact .inl h
  · exact .inr ⟨l, b, by rw [h, List.concat_eq_append]⟩
end DL
set_option Elab.async false
set_option linter.all false
set_option maxRecDepth 100000
namespace DL
open PySem PySem.Spec L2
open PyProof.Rows hiding St
/-- a new deck, from the script -/
def spDeck (K : PySem.W.Frag) : Sp := fun vs H Q _ => ∃ (s : Addr) (ns : List Int), vs = [.ref s] ∧ SqL K H s (ns.map V.int) ∧ ns.length ≤ 63 ∧
  ∀ (H' : Hp) (a l : Addr) (m : Int) (xs : List Int), (∀ p o, H p = some o → H' p = some o) → H a = none → H l = none → H' a = some (.dK (deckKvs l m 0)) → H' l = some (.lst (xs.map V.int)) → xs.length ≤ 63 → Q (.ref a) H'
theorem merge_deck {l : Addr} {m : Int} : mergeK [] [(.inr ("left" : Str), .ref l), (.inr ("mixed" : Str), .int m), (.inr ("draws" : Str), .int 0)] = deckKvs l m 0 := rfl
theorem PSs.exF {X : Cx} {sts : List Stmt} {P : FP → Prop} {T : TDS} (h : ∀ F : FP, P F → PSs X sts (sD F T)) : PSs X sts (fun De σ H => ∃ F : FP, P F ∧ sD F T De σ H) :=
  ⟨fun pins s σ H De I ⟨F, e, q⟩ => (h F e).run pins s σ H De I q⟩
/-- the law: a deck is made, the rest is data -/
def spLaw (K : PySem.W.Frag) (n : Nat) (T : TDS) : Sp := fun vs H Q _ => ∃ (s : Addr) (ns : List Int), vs = [.ref s] ∧ SqL K H s (ns.map V.int) ∧ ns.length ≤ 63 ∧ LamX.Tabs (tabsOf K) H ∧
  T (fun _ _ => False) { nx := fun _ => False, rt := fun d => d = .bl true } (.un :: .d .deck :: List.replicate n .un) ∧ ∀ H', Q (.bl true) H'
theorem law_rest {K : PySem.W.Frag} {n : Nat} {T : TDS} {H' : Hp} {Q : VK} {a l : Addr} {m : Int} {xs : List Int} {s0 : V} (h0 : H' a = some (.dK (deckKvs l m 0))) (h1 : H' l = some (.lst (xs.map V.int))) (hx : xs.length ≤ 63) (ht : LamX.Tabs (tabsOf K) H')
    (hT : T (fun _ _ => False) { nx := fun _ => False, rt := fun d => d = .bl true } (.un :: .d .deck :: List.replicate n .un)) (k : ∀ H', Q (.bl true) H') :
    ∃ F : FP, (F.K = K ∧ F.ex = fun _ _ => False) ∧ sD F T { nx := fun _ H' => Q .non H', rt := Q } (some s0 :: some (.ref a) :: List.replicate n none) H' := by
  refine ⟨⟨K, ⟨some (a, l), tabsOf K⟩, fun p => p = a ∨ p = l, H', fun _ _ => False, fun p => p = a ∨ p = l, H'⟩, ⟨rfl, rfl⟩, fun p => p = a ∨ p = l, _, _, ⟨⟨⟨?_, ht⟩, .refl, fun _ h => h, ?_, ?_, fun p h n => (n h).elim, .refl, rfl⟩, by simp, ?_, ?_⟩, hT, ⟨fun _ _ _ _ _ _ z => z.elim, fun v H2 d _ r z => ?_, fun _ _ _ _ _ _ z => z.elim, fun _ _ _ _ _ _ z => z.elim⟩⟩
  · intro a' l' e; cases e; exact ⟨xs, m, 0, h0, h1, hx⟩
  · rintro p ⟨a', l', e, z⟩; cases e; exact z
  · rintro p (rfl | rfl)
    · exact ⟨_, h0, kp_dk⟩
    · exact ⟨_, h1, kp_lst⟩
  · intro i s hs
    match i, hs with
    | 0, hs => cases hs; trivial
    | 1, hs => cases hs; exact ⟨.ref a, rfl, a, l, rfl, rfl⟩
    | i + 2, hs =>
      have : s = .un := by
        have := List.mem_of_getElem? (show (List.replicate n Slot.un)[i]? = some s from hs)
        exact (List.mem_replicate.mp this).2
      subst this
      trivial
  · intro i j p xs ys _ h
    match i, h with
    | 0, h => cases h
    | 1, h => cases h
    | i + 2, h =>
      have := List.mem_of_getElem? (show (List.replicate n Slot.un)[i]? = some (.own xs) from h)
      cases (List.mem_replicate.mp this).2
  · have z : d = .bl true := z
    subst z
    rw [show v = .bl true from r]
    exact k H2
theorem _root_.L2.Same.lay {H H1 : Hp} {q : Addr} {o : HO} (s : Same H H1) (hq : H1 q = none) : Same H (upd H1 q o) := fun b u e => by
  rw [upd_ne (ne_of_none (s b u e) hq)]
  exact s b u e
theorem cut_ints (ns : List Int) (lo hi : Option Int) : ∃ ms : List Int, cutV (ns.map V.int) lo hi = ms.map V.int ∧ ms.length ≤ ns.length := by
  refine ⟨(ns.drop (HT.sIx ns.length 0 lo)).take (HT.sIx ns.length ns.length hi - HT.sIx ns.length 0 lo), ?_, ?_⟩
  · unfold cutV
    rw [List.length_map, ← List.map_drop, ← List.map_take]
  · rw [List.length_take, List.length_drop]
    omega
theorem keepU {H : Hp} {p q : Addr} {o u : HO} (h : H p = some u) (hq : H q = none) : upd H q o p = some u := by
  rw [upd_ne (ne_of_none h hq)]
  exact h
end DL
set_option Elab.async false
set_option linter.all false
set_option maxRecDepth 100000
set_option maxHeartbeats 2000000
namespace DL
open PySem PySem.Spec L2
open PyProof.Rows hiding St
section
variable {P : Program} {w : World} {K : PySem.W.Frag} {mg mb : Str → Option Value} {CX : CXT} {k : Nat} {fa a : Addr} {fd : FuncData} {x : Str} {sp : Sp} {s₁ : Shared} {vs : List Value} {ns : List Int}
/-- the abstract heap at the law's call: the script, if it is no object of the module's own -/
def startH (K : PySem.W.Frag) (a : Addr) (vs : List Value) (ns : List Int) : Hp := fun b => match K.lookup a with
  | some _ => none
  | none => if b = a then some (.frz { cls := .type "list", data := .seq vs.toArray } (.lst (ns.map V.int))) else none
theorem startH_at {b : Addr} {u : HO} (h : startH K a vs ns b = some u) : K.lookup a = none ∧ b = a ∧ u = .frz { cls := .type "list", data := .seq vs.toArray } (.lst (ns.map V.int)) := by
  unfold startH at h
  cases q : K.lookup a with
  | some o => rw [q] at h; cases h
  | none =>
    rw [q] at h
    by_cases hb : b = a
    · rw [if_pos hb] at h
      cases h
      exact ⟨rfl, hb, rfl⟩
    · rw [if_neg hb] at h
      cases h
theorem law_callG (KX : K.In s₁.heap) (hns : s₁.heap.Ns mainGlobals mg) (hb : s₁.heap.Ns builtinsNs mb) (hbb : ∀ x : Str, x ≠ "__name__" → mb x = bootBuiltins x) (hlim : s₁.heap.NoLimit) (hg : s₁.gens = #[])
    (ha : s₁.heap.get? a = some { cls := .type "list", data := .seq vs.toArray }) (hi : IntsAre vs ns) (hl : ns.length ≤ sizeLine) (hr : RoomG k callerA)
    (F : ∀ base : Heap, K.In base → base.Ns mainGlobals mg → FnG P w K mg base CX k fa fd [x] sp) (hbind : ∀ (s : Shared) (u : Value), BindsTo s fd ⟨[u], []⟩ [(x, u)])
    (hsp : ∀ H : Hp, SqL K H a (ns.map V.int) → sp [.ref a] H (fun v _ => v = .bl true) fun _ _ _ => False) (hCX : ∀ H e s', CX [] H s₁ (fun _ _ _ => False) e s' → False) :
    codeAny (model P w) callerA (.call (.ref fa) ⟨[.ref a], []⟩) (fun r s' => r = .ok (.ret (.bool true)) ∧ OldK s₁.heap s'.heap ∧ s'.os = s₁.os ∧ AllBare s'.gens) s₁ := by
  have rel := vals_ints hi
  have hlen : ns.length = vs.length := hi.length.symm
  generalize eH : startH K a vs ns = H
  have at_ : ∀ {b : Addr} {u : HO}, H b = some u → K.lookup a = none ∧ b = a ∧ u = .frz { cls := .type "list", data := .seq vs.toArray } (.lst (ns.map V.int)) := fun {b u} h => startH_at (by rw [eH]; exact h)
  have free : ∀ {b : Addr}, b ≠ a → H b = none := fun {b} h => by
    cases q : H b with
    | none => rfl
    | some u => exact absurd (at_ q).2.1 h
  have held : HOk P w H s₁.heap := fun b u e => by
    obtain ⟨_, rfl, rfl⟩ := at_ e
    exact ⟨ha, by rw [List.length_map]; exact hl, vs, _, rel, ha⟩
  have script : SqL K H a (ns.map V.int) := by
    cases q : K.lookup a with
    | none =>
      refine .inl (.inr ⟨{ cls := .type "list", data := .seq vs.toArray }, ?_⟩)
      rw [← eH]
      unfold startH
      rw [q]
      exact if_pos rfl
    | some o =>
      have e := KX a o q
      rw [ha] at e
      cases e
      exact .inr ⟨_, vs.toArray, _, q, rfl, rfl, rfl, by rw [List.size_toArray, ← hlen]; exact hl, by simpa using rel⟩
  have notDict : ∀ {b : Addr} {o : Obj} {es : Array DictEntry} {ep : Nat}, s₁.heap.get? b = some o → o.data = .dict es ep → H b = none := fun {b o es ep} e d => free fun z => by
    subst z
    rw [ha] at e
    cases e
    cases (show Data.seq vs.toArray _ = Data.dict es ep from d)
  have ns' : ∀ {b : Addr} {m : Str → Option Value}, s₁.heap.Ns b m → (hidT s₁.heap H).Ns b m := fun {b m} ⟨o, es, ep, e, d, r⟩ => ⟨o, es, ep, hidT_get e (notDict e d), d, r⟩
  have inK : K.In (hidT s₁.heap H) := fun b o e => hidT_get (KX b o e) (by
    cases q : H b with
    | none => rfl
    | some u =>
      obtain ⟨h1, h2, _⟩ := at_ q
      rw [h2, h1] at e
      cases e)
  obtain ⟨mc, l1, l2⟩ := hlim
  have e0 : Env0 P w K mg (hidT s₁.heap H) callerA [] s₁ H :=
    ⟨rfl, ⟨inK, ns' hns, ⟨mb, ns' hb, hbb⟩, mc, ns' l1, l2⟩, fun b o e => of_hidT e, Nat.le_of_eq (hidT_size _ _), trivial, (fun b h => by cases h), held, .of_eq hg⟩
  refine codeAny_mono ((F _ inK (ns' hns)).run callerA [] s₁ H ⟨[.ref a], []⟩ [.ref a] [.ref a] _ _ hr e0 (hbind s₁ (.ref a)) (.cons rfl .nil) (hsp H script)) ?_
  rintro (e | fl) s' h
  · exact (hCX H e s' h).elim
  cases fl with
  | next => cases h
  | brk => cases h
  | cont => cases h
  | ret u =>
    obtain ⟨v, H', os, bare, un, hok', r', q⟩ := h
    have q' : v = .bl true := q
    subst q'
    obtain rfl : u = Value.bool true := r'
    refine ⟨rfl, OldK.of_keep fun b o e => ?_, os, bare⟩
    cases q : H b with
    | none => exact un.keep b o e q (by intro z; cases z) (by intro z; cases z)
    | some u =>
      obtain ⟨_, rfl, rfl⟩ := at_ q
      obtain ⟨e2, _⟩ := hok' b _ (un.frzs b _ _ q)
      rw [ha] at e
      cases e
      exact e2
end
theorem walk_ofG {l : PySem.W.OpenLaw} {n k : Nat} {q : Program} {loose : List Str} {XP : (Str → Option Value) → Heap → Prop} {YP : World → Heap → Prop} {d : DefRec} {x : Str}
    (hn : l.most = some n) (hn2 : n ≤ sizeLine) (hdf : d.params.defaults = []) (hr : RoomG k callerA)
    (F : ∀ (w : World) (mg : Str → Option Value) (fa : Addr) (h : Heap), YP w h → h.Ns mainGlobals mg → mg d.name = some (.ref fa) →
      ∃ (K : PySem.W.Frag) (fd : FuncData) (sp : Sp), K.In h ∧ (∀ (s : Shared) (u : Value), BindsTo s fd ⟨[u], []⟩ [(x, u)]) ∧
        (∀ (H : Hp) (a : Addr) (ns : List Int), ns.length ≤ n → SqL K H a (ns.map V.int) → sp [.ref a] H (fun v _ => v = .bl true) fun _ _ _ => False) ∧
        ∀ base : Heap, K.In base → base.Ns mainGlobals mg → FnG l.prog w K mg base CX0 k fa fd [x] sp) :
    PySem.W.WalkO q loose XP YP l.row.toRowW d [] (fun f vs => PySem.call f vs) :=
  Att.attach_call hn hdf fun w s₀ s₁ mg mb fa o pm cd doc a vs ns G Y ho hd hcd hmg hobj hints hlen hg =>
    let ⟨_, _, _, KX, hb, hsp, hF⟩ := F w mg fa _ Y G.T.g hmg
    law_callG KX G.T.g G.T.b G.T.builtins G.T.nolimit hg hobj hints (Nat.le_trans hlen hn2) hr hF hb (fun H hS => hsp H a ns hlen hS) fun _ _ _ z => z
/-! ### the head: facts, and some more -/
def obsE (n : Nat) (fa : List He.Fa) (fn : List He.DefD) (ex : PySem.W.Frag → Bool) (g : Addr → Option Obj) : He.AlD × Bool := (He.obsD fa fn (He.frG g (He.asD g n ++ [cStatics])), ex (He.frG g (He.asD g n ++ [cStatics])))
def hookE (n : Nat) (fa : List He.Fa) (fn : List He.DefD) (ex : PySem.W.Frag → Bool) : PySem.W.Hook where
  α := He.AlD × Bool
  obs := fun s => obsE n fa fn ex s.heap.get?
  val := fun _ => (He.valD fn, true)
  says := fun _ h => ∃ K : PySem.W.Frag, K.In h ∧ He.SaysD fa fn K ∧ ex K = true
  of := fun _ _ e => ⟨_, He.frG_in, congrArg (fun z : He.AlD × Bool => z.1) e, congrArg (fun z : He.AlD × Bool => z.2) e⟩
  keeps := fun _ _ _ ⟨K, hK, c⟩ k => ⟨K, PySem.W.Frag.In.keeps hK k, c⟩
theorem obsE_eq {n : Nat} {fa : List He.Fa} {fn : List He.DefD} {ex : PySem.W.Frag → Bool} {g : Addr → Option Obj} {s : Shared} (h : ∀ a, g a = s.heap.get? a) : obsE n fa fn ex g = (hookE n fa fn ex).obs s := by
  have e : g = s.heap.get? := funext h
  rw [e]
  rfl
def bltB (K : PySem.W.Frag) (x : Str) (b : String) : Bool := decide (PySem.W.nsIn K mainGlobals x = some (some (.builtin b)))
theorem blt_ok {K : PySem.W.Frag} {h : Heap} {mg : Str → Option Value} (X : K.In h) (G : h.Ns mainGlobals mg) {x : Str} {b : String} (c : bltB K x b = true) : mg x = some (.builtin b) := PySem.W.mg_of X G (of_decide_eq_true c)
end DL
set_option Elab.async false
set_option linter.all false
set_option maxRecDepth 100000
set_option maxHeartbeats 2000000
/-! exceptions over data: raise, calls that raise, try -/
namespace DL
open PySem PySem.Spec L2
open PyProof.Rows hiding St
/-- what the reading wishes of exceptions is what is wished below -/
def WOk (F : FP) (W : WX) : Prop := ∀ N σ H env x c od, FOk F N σ H env → XRep F.K F.Z N H x c od → F.ex x env → W c od σ H
theorem wok_none {F : FP} (h : F.ex = fun _ _ => False) {W : WX} : WOk F W := fun _ _ _ _ _ _ _ _ _ z => by
  rw [h] at z
  exact z.elim
theorem XRep.less {K : PySem.W.Frag} {Z : Zn} {N N' : Addr → Prop} {H : Hp} {x : DX} {c : Value} {od : Option Addr} (hn : ∀ p, N' p → N p) (h : XRep K Z N H x c od) : XRep K Z N' H x c od := by
  obtain ⟨h1, h2 | ⟨d, vs, e, n, h3, h4⟩⟩ := h
  · exact ⟨h1, .inl h2⟩
  · exact ⟨h1, .inr ⟨d, vs, e, fun z => n (hn d z), h3, h4.less hn⟩⟩
section
variable {P : Program} {w : World} {K : PySem.W.Frag} {mg : Str → Option Value} {base : Heap} {k : Nat} {f : Addr} {fd : FuncData} {N ps : List Str}
/-- a def that may let exceptions out -/
theorem fng_dataX {x qual : Str} {params : Arguments} {body : List Stmt} {scope : Scope} {dvs : List V} {kws : List (Str × V)} {T : TDS} (Fd : FunD K x qual params body scope dvs kws f fd) (S : FnScope N ps scope)
    (hb : ∀ (cdv : Value) (A : Around) (outer : List Env) (s : Shared) (H : Hp) (E : XK) (F : FP), F.K = K → WOk F (fun c od _ H' => E c od H') → RoomG k (A.deeper (envOfC qual scope s.heap.objs.size f cdv)) →
      PSs (cxOf (CX P w) P w K mg base N qual scope f cdv A outer s H E) body (sD F T)) : FnG P w K mg base (CX P w) (k + 1) f fd ps (spD K ps.length fun ξ ds Q => tfOf N.length T ξ ds Q) := by
  refine fng_of Fd S ?_ ?_
  · rintro vs H Q E ⟨Z, B, ds, Qd, Ed, b, r, hl, _⟩
    rw [← r.length, hl]
  · rintro cdv A outer s H vs Q E room ⟨Z, B, ds, Qd, Ed, b, r, hl, hT, hq, he⟩
    refine ⟨_, hb cdv A outer s H E ⟨K, Z, B, H, fun x _ => Ed x, B, H⟩ rfl (fun N' σ H' env x c od f' xr hx => he x c od H' f'.n.ext (xr.less f'.n.sub) hx) room, ?_⟩
    exact ⟨B, _, _, start_ok b r, hT, ⟨fun N' σ' H' env' f' _ q => hq _ _ _ f'.n.ext rep_non q, fun v H' d e r' q => hq v H' d e r' q, fun _ _ _ _ _ _ q => q.elim, fun _ _ _ _ _ _ q => q.elim⟩⟩
end
section
variable {X : Cx} {F : FP} {W : WX} {k n : Nat} {f : Addr} {fd : FuncData} {ps ks : List Str} {x : Str} {p pos : Pos} {e : Expr} {es : List Expr} {kws : List Keyword} {Tas Tks : TDA} {T : TF} {sp : Sp}
/-! ### calls that may raise -/
theorem run_gs {CX : CXT} {E : L2.St → XK} {pins : List (Addr × Obj)} {σ : L2.St} {H : Hp} {s : Shared} {Q : VK} {us : List Value} {vs : List V} {args : Args} (G : FnG X.prog X.w X.K X.mg X.base CX k f fd ps sp) (hr : RoomG k X.A) (hb : BindsTo s fd args (ps.zip us)) (hx : PassesAt CX X σ (E σ))
    (I : Inv X pins σ H s) (r : Vals vs us) (h : sp vs H Q (E σ)) : codeAny (model X.prog X.w) X.A (.call (.ref f) args) (fun r s' => match r with | .ok (.ret u) => EP X pins σ Q u s' | .ok _ => False | .error e => X.xe e s') s := by
  refine codeAny_mono (G.run X.A X.stack s H args us vs Q (E σ) hr I.env0 hb r h) fun r s' hq => ?_
  cases r with
  | error e => exact hx pins H s e s' I hq
  | ok fl =>
    cases fl with
    | ret u => exact I.after hq
    | next => exact hq
    | brk => exact hq
    | cont => exact hq
theorem pe_callGS {CX : CXT} {E : L2.St → XK} {t : TA} (G : FnG X.prog X.w X.K X.mg X.base CX k f fd ps sp) (hr : RoomG k X.A) (hg : Gl X x) (hm : X.mg x = some (.ref f)) (hk : PySem.W.keepIn X.K (.ref f) = true) (hb : Binds X.K fd ps []) (hx : ∀ σ, PassesAt CX X σ (E σ))
    (ha : PA X (e :: es) t) (hdb : (x == ("__debug__" : Str)) = false := by decide) (he : starEach (e :: es) X.env = (false, eval e X.env) :: starEach es X.env := by rfl) (hpl : (backTo pos (starEach es X.env)).any (·.1) = false := by rfl) :
    PE X (.Call (.Name x p) (e :: es) [] pos) (tCallS sp E t) := ⟨fun pins s σ H Q I h =>
  wpAny_Call_Name_kw (ld_glob I hg hm (PySem.W.callWith_K (h₀ := X.base) I.ok.mod.kin hk (thn (ha.run pos pins s σ H _ I h) fun us s1 ⟨vs, H1, I1, r, q⟩ => ⟨I1.kIn, by
    have hl : us.length = ps.length := r.length.symm.trans (G.len _ _ _ _ q)
    have b := hb s1 us I1.kIn (by simpa using hl)
    rw [List.append_nil] at b
    refine wpAny_call (codeAny_mono (run_gs G hr b (hx σ) I1 r q) fun r s' hq => ?_)
    cases r with
    | error e => exact hq
    | ok fl => cases fl <;> exact hq⟩) he hpl) hdb)⟩
def dCallX (n : Nat) (T : TF) (Ta : TDA) : TDE := fun ξ env Q => Ta ξ env fun ds => ds.length = n ∧ T (fun x => ξ x env) ds Q
theorem tCallX_imp (hK : F.K = X.K) (wo : WOk F W) : ∀ σ H Q, tD F (dCallX n T Tas) σ H Q → tCallS (spD X.K n T) (WE W) (tDA F Tas) σ H Q := by
  rintro σ H Q ⟨N, env, Qd, f, hT, k⟩
  refine ⟨N, env, _, f, hT, fun vs H1 ds e1 r1 q1 => ?_⟩
  have f1 := f.ext' e1
  refine ⟨F.Z, N, ds, Qd, _, by rw [← hK]; exact f1.n.bok, by rw [← hK]; exact r1, q1.1, q1.2, fun v H2 d e2 r2 q2 => k v H2 d (e1.trans e2) (by rw [hK]; exact r2) q2, fun x c od H2 e2 xr hx => ?_⟩
  exact wo N σ H2 env x c od (f1.ext' e2) (by rw [hK]; exact xr) hx
theorem d_callX (G : FnG X.prog X.w X.K X.mg X.base (CX X.prog X.w) k f fd ps (spD X.K n T)) (tk : Takes X W) (wo : WOk F W) (hK : F.K = X.K) (hr : RoomG k X.A) (hg : Gl X x) (hm : X.mg x = some (.ref f)) (hk : PySem.W.keepIn X.K (.ref f) = true) (hb : Binds X.K fd ps [])
    (ha : PA X (e :: es) (tDA F Tas)) (hdb : (x == ("__debug__" : Str)) = false := by decide) (he : starEach (e :: es) X.env = (false, eval e X.env) :: starEach es X.env := by rfl) (hpl : (backTo pos (starEach es X.env)).any (·.1) = false := by rfl) :
    PE X (.Call (.Name x p) (e :: es) [] pos) (tD F (dCallX n T Tas)) :=
  PE.imp (pe_callGS G hr hg hm hk hb (fun σ => passAt tk σ) ha hdb he hpl) (tCallX_imp hK wo)
def dCallKX (m n : Nat) (idx : List Nat) (T : TF) (Tk : TDA) : TDE := fun ξ env Q => Tk ξ env fun ds => (ds.length = m ∧ (perm idx ds).length = n) ∧ T (fun x => ξ x env) (perm idx ds) Q
theorem d_callKX {idx : List Nat} {m : Nat} (G : FnG X.prog X.w X.K X.mg X.base (CX X.prog X.w) k f fd ps (spD X.K n T)) (tk : Takes X W) (wo : WOk F W) (hK : F.K = X.K) (hr : RoomG k X.A) (hg : Gl X x) (hm : X.mg x = some (.ref f)) (hk : PySem.W.keepIn X.K (.ref f) = true) (hb : KB fd ps ks idx)
    (hkw : PK X kws (tDA F Tks)) (hall : (backToKw pos (keywordEach kws X.env)).all (·.1.isSome) = true := by rfl) (hks : (backToKw pos (keywordEach kws X.env)).filterMap (·.1) = ks := by rfl) (hdb : (x == ("__debug__" : Str)) = false := by decide)
    (hpl : ((backTo pos (starEach [] X.env)).any (·.1) || (backToKw pos (keywordEach kws X.env)).any (·.1.isNone)) = false := by rfl) (hml : ks.length = m := by rfl) : PE X (.Call (.Name x p) [] kws pos) (tD F (dCallKX m n idx T Tks)) := ⟨fun pins s σ H Q I h => by
  subst hml
  obtain ⟨N, env, Qd, ff, hT, kk⟩ := h
  refine wpAny_Call_Name_kw (ld_glob I hg hm (PySem.W.callWith_KW0 (h₀ := X.base) I.ok.mod.kin hk hall ?_ hpl) hdb)
  refine thn (hkw.run pos pins s σ H (fun zs H2 => ∃ ds, Ext F.Z H H2 ∧ Reps F.K F.Z N H2 ds zs ∧ (ds.length = ks.length ∧ (perm idx ds).length = n) ∧ T (fun x => F.ex x env) (perm idx ds) Qd) I ⟨N, env, _, ff, hT, fun vs H1 ds e1 r1 q1 => ⟨ds, e1, r1, q1.1, q1.2⟩⟩) ?_
  rintro ws s2 ⟨zs, H2, I2, rz, ds, e1, r1, l2, q2⟩
  rw [hks]
  have f1 := ff.ext' e1
  have hl : zs.length = ks.length := r1.length.symm.trans l2.1
  refine ⟨I2.kIn, wpAny_call (codeAny_mono (run_gs (E := WE W) (Q := Q) G hr (hb s2 ws (rz.length.symm.trans hl)) (passAt tk σ) I2 (perm_vals rz idx) ?_) fun r s' hq => ?_)⟩
  · refine ⟨F.Z, N, perm idx ds, Qd, _, by rw [← hK]; exact f1.n.bok, by rw [← hK]; exact perm_reps r1 idx, l2.2, q2, fun v H3 d e2 r2 q => kk v H3 d (e1.trans e2) (by rw [hK]; exact r2) q, fun x c od H3 e2 xr hx => ?_⟩
    exact wo N σ H3 env x c od (f1.ext' e2) (by rw [hK]; exact xr) hx
  · cases r with
    | error e => exact hq
    | ok fl => cases fl <;> exact hq⟩
/-! ### raise X() -/
theorem pmk_bare {C : Addr} {bmB : List Value} {B newId initId : String} (Fb : ExcBaseFacts B newId initId bmB) (q : PySem.W.excIn X.K C bmB newId = true) (gC : X.mg x = some (.ref C)) (kC : PySem.W.keepIn X.K (.ref C) = true) (r : Raises X (.ref C)) (hg : Gl X x)
    (hdb : (x == ("__debug__" : Str)) = false := by decide) : PMk X (.Call (.Name x p) [] [] pos) (fun _ H Q => Q (.ref C) none H) := by
  intro pins s σ H Q I h
  refine wpAny_Call_Name_kw (ld_glob I hg gC ?_ hdb)
  refine PySem.W.callWith_K0 I.kIn kC ?_
  show wpAny _ _ (call (.ref C) []) _ _ _
  obtain ⟨bm, N, nm, qn, bs, hdct, sn, sub, ab, col, dd, k0, k1, k2, k3, k5, mN, hC, hN, hni, T⟩ := exc_obj I.kIn q
  exact wpAny_call_exc_subT Fb T hC hN hni (fun h' e hm => mk_of I hm r h (I.hok.gone hm.new)) (Nat.zero_le _)
def dRaise0 (n : Str) : TDS := fun ξ _ env => ξ ⟨n, []⟩ env
theorem ds_raise0 {C : Addr} {bmB : List Value} {B newId initId : String} {pos' : Pos} (hc : X.calm = true) (tk : Takes X W) (wo : WOk F W) (hK : F.K = X.K) (Fb : ExcBaseFacts B newId initId bmB) (q : PySem.W.excIn X.K C bmB newId = true) (gC : X.mg x = some (.ref C)) (cC : clsAt X.K x = .ref C)
    (kC : PySem.W.keepIn X.K (.ref C) = true) (r : Raises X (.ref C)) (hg : Gl X x) (hdb : (x == ("__debug__" : Str)) = false := by decide) : PS X (.Raise (some (.Call (.Name x p) [] [] pos)) none pos') (sD F (dRaise0 x)) :=
  PS.imp (ps_raise hc tk (pmk_bare Fb q gC kC r hg hdb)) (by
  rintro De σ H ⟨N, env, Dd, f, hT, ok⟩
  exact wo N σ H env ⟨x, []⟩ _ none f ⟨by rw [hK]; exact cC.symm, .inl ⟨rfl, rfl⟩⟩ hT)
end
/-! ### try, one clause without a name -/
theorem FOk.rebase {F : FP} {N : Addr → Prop} {σ : L2.St} {H : Hp} {env : SE} (f : FOk F N σ H env) (ex : XW) : FOk { F with ex := ex, N1 := N, H1 := H } N σ H env := ⟨⟨f.n.deck, f.n.ext, f.n.sub, f.n.zin, f.n.all, f.n.new, .refl, f.n.tb⟩, f.len, fun i s h => by
  have q := f.slot i s h
  cases s <;> exact q, f.apart⟩
theorem FOk.back {F : FP} {N N0 : Addr → Prop} {σ : L2.St} {H H0 : Hp} {env : SE} {ex : XW} (f : FOk { F with ex := ex, N1 := N0, H1 := H0 } N σ H env) (g : Evo F.N1 F.H1 N0 H0) : FOk F N σ H env := ⟨⟨f.n.deck, f.n.ext, f.n.sub, f.n.zin, f.n.all, f.n.new, g.trans f.n.gr, f.n.tb⟩, f.len, fun i s h => by
  have q := f.slot i s h
  cases s <;> exact q, f.apart⟩
def dTry1 (m : Str → Option Bool) (body h : TDS) : TDS := fun ξ De env => body (fun x env' => match m x.cls with
  | some true => h (fun _ _ => False) De env'
  | some false => ξ x env'
  | none => False) De env
theorem PSs.exP {X : Cx} {sts : List Stmt} {α : Sort _} {t : α → TS} (h : ∀ i, PSs X sts (t i)) : PSs X sts (fun De σ H => ∃ i, t i De σ H) := ⟨fun pins s σ H De I ⟨i, q⟩ => (h i).run pins s σ H De I q⟩
theorem PSs.andP {X : Cx} {sts : List Stmt} {p : Prop} {t : TS} (h : p → PSs X sts t) : PSs X sts (fun De σ H => p ∧ t De σ H) := ⟨fun pins s σ H De I ⟨i, q⟩ => (h i).run pins s σ H De I q⟩
theorem ds_try1 {X : Cx} {F : FP} {W : WX} {x : Str} {c : Value} {m : Str → Option Bool} {body suite : List Stmt} {b₀ : Stmt} {np pos pos' : Pos} {Tb Th : TDS} (hK : F.K = X.K) (hs : X.stack = X.env :: X.outer) (hf : X.env.frame = some X.env.locals) (hc : Names X x c) (tk : Takes X W) (wo : WOk F W)
    (hm : ∀ n b, m n = some b → PySem.W.exmOne X.K (clsAt X.K n) c = some b)
    (hb : ∀ (W : WX) (pn : List (Addr × Obj)) (xe : Value → Shared → Prop) (F' : FP), Takes (X.tr pn xe) W → PassesOwn (model X.prog X.w) X.A X.env xe → F'.K = F.K → WOk F' W → PSs (X.tr pn xe) body (sD F' Tb))
    (hsu : ∀ (a : Addr) (pn : List (Addr × Obj)), PSs (X.suite a pn) (b₀ :: suite) (sD F.calm Th)) :
    PS X (.Try body [.ExceptHandler (some (.Name x np)) none (b₀ :: suite) pos'] [] [] pos) (sD F (dTry1 m Tb Th)) := by
  refine PS.imp (ps_try_only (tb := fun W De σ H => ∃ F' : FP, (F'.K = F.K ∧ WOk F' W) ∧ sD F' Tb De σ H) (ts := fun _ _ _ => sD F.calm Th) hs hf hc tk (fun W pn xe t1 p1 => PSs.exP fun F' => PSs.andP fun h => hb W pn xe F' t1 p1 h.1 h.2) fun a oe cls d pn _ _ => hsu a _) ?_
  rintro De σ H ⟨N, env, Dd, f, hT, ok⟩
  have g := f.n.gr
  refine ⟨{ F with ex := _, N1 := N, H1 := H }, ⟨rfl, ?_⟩, N, env, Dd, f.rebase _, hT, ⟨fun N' σ' H' env' f' ev q => ok.nx N' σ' H' env' (f'.back g) ev q, ok.rt, fun N' σ' H' env' f' ev q => ok.bk N' σ' H' env' (f'.back g) ev q, fun N' σ' H' env' f' ev q => ok.ct N' σ' H' env' (f'.back g) ev q⟩⟩
  intro N' σ' H' env' y c' od f' xr hx
  have e := xr.1
  have fb := f'.back g
  have hx : (match m y.cls with
    | some true => Th (fun _ _ => False) Dd env'
    | some false => F.ex y env'
    | none => False) := hx
  cases q : m y.cls with
  | none => rw [q] at hx; exact hx.elim
  | some b =>
    rw [q] at hx
    have em := hm _ _ q
    refine ⟨b, by rw [e]; rw [← hK] at em ⊢; exact em, fun hb1 a _ => ?_, fun hb0 => ?_⟩
    · subst hb1
      have ok' := ok.of f'.n.gr
      exact ⟨N', env', Dd, fb.wish _, hx, ⟨fun N2 σ2 H2 env2 f2 ev q => ok'.nx N2 σ2 H2 env2 f2.unwish ev q, ok'.rt, fun N2 σ2 H2 env2 f2 ev q => ok'.bk N2 σ2 H2 env2 f2.unwish ev q, fun N2 σ2 H2 env2 f2 ev q => ok'.ct N2 σ2 H2 env2 f2.unwish ev q⟩⟩
    · subst hb0
      exact wo N' σ' H' env' y c' od fb xr hx
end DL
set_option Elab.async false
set_option linter.all false
set_option maxRecDepth 100000
set_option maxHeartbeats 2000000
/-! more operators over data -/
namespace DL
open PySem PySem.Spec L2
open PyProof.Rows hiding St
/-! ### gcd of three -/
theorem args_gcd3 (a b c : Value) : argsOk "math.gcd" ⟨[a, b, c], []⟩ := by unfold argsOk; kernel_rfl
theorem gives_gcd3 (a : Int) (t : Tok) (b : Int) (u : Tok) (c : Int) (v : Tok) : Gives (Builtin.«math.gcd» ⟨[.int a t, .int b u, .int c v], []⟩) (.int (((((Nat.gcd 0 a.natAbs).gcd b.natAbs).gcd c.natAbs : Nat) : Int))) :=
  .of_wp fun M A E s Q h => by
    obtain ⟨hp, g, d, tk, os⟩ := s
    wp_walk
    exact ⟨_, rfl, h⟩
def rGcd3 : List V → Hp → VK → Prop := fun vs H Q => ∃ a b c : Int, vs = [.int a, .int b, .int c] ∧ Q (.int (((Nat.gcd a.natAbs b.natAbs).gcd c.natAbs : Nat) : Int)) H
section
variable {X : Cx} {F : FP} {a b c e : Expr} {es : List Expr} {pos : Pos} {Ta Tb Tc : TDE} {Tas : TDA}
theorem cr_gcd3 : CallR X (.builtin "math.gcd") rGcd3 := by
  intro pins s σ H vs us Q I r h
  obtain ⟨a, b, c, rfl, q⟩ := h
  cases r with
  | cons r1 r =>
    obtain ⟨t, rfl⟩ := r1
    obtain ⟨u, v, rfl⟩ := Vals.int2 r
    have g := gives_gcd3 a t b u c v
    rw [Nat.gcd_zero_left] at g
    exact call_function_meets PySem.W.MGF.kind_gcd PySem.W.MGF.plain_gcd PySem.W.MGF.entry_gcd (args_gcd3 _ _ _) g.meets ⟨.int _, H, I.tok _, ⟨_, rfl⟩, q⟩
def gGcd3 : GA := fun xs Q => match xs with
  | [.int a, .int b, .int c] => Q (.int (((Nat.gcd a.natAbs b.natAbs).gcd c.natAbs : Nat) : Int))
  | _ => False
theorem cd_gcd3 : CallD F rGcd3 gGcd3 := ⟨by
  intro N H vs ds Qd Q n r h k
  unfold gGcd3 at h
  split at h
  · obtain ⟨v1, r1, rfl, h1, v2, r2, rfl, h2, v3, r3, rfl, h3, rfl⟩ := r
    cases (show v1 = .int _ from h1)
    cases (show v2 = .int _ from h2)
    cases (show v3 = .int _ from h3)
    exact ⟨_, _, _, rfl, k _ _ _ Ext.refl rep_int h⟩
  · exact h.elim⟩
/-! ### + and * of ints, lists, tuples -/
theorem opd_or {r r' : R2} {g g' g2 : G2} (h : OpD F r g) (h' : OpD F r' g') (e : ∀ x y Q, g2 x y Q → g x y Q ∨ g' x y Q) : OpD F (fun x y H Q => r x y H Q ∨ r' x y H Q) g2 := ⟨fun N H x y dx dy Qd Q n rx ry hg k => (e dx dy Qd hg).elim (fun q => .inl (h.ok N H x y dx dy Qd Q n rx ry q k)) (fun q => .inr (h'.ok N H x y dx dy Qd Q n rx ry q k))⟩
def gCatL : G2 := fun x y Q => match x, y with
  | .lst xs, .lst ys => xs.length + ys.length ≤ sizeLine ∧ Q (.lst (xs ++ ys))
  | _, _ => False
theorem opd_catL : OpD F rCat gCatL := ⟨by
  intro N H x y dx dy Qd Q n rx ry h k
  unfold gCatL at h
  split at h
  · obtain ⟨l, vs, rfl, nl, hl, rl⟩ := rx
    obtain ⟨b, ws, rfl, nb, hb, rb⟩ := ry
    exact ⟨l, b, vs, ws, rfl, rfl, hl, hb, by rw [← rl.length, ← rb.length]; exact h.1, fun p hp => k _ _ _ (n.lay hp) (rep_newL n hp (rl.append rb)) h.2⟩
  · exact h.elim⟩
def gCatT : G2 := fun x y Q => match x, y with
  | .tup xs, .tup ys => xs.length + ys.length ≤ sizeLine ∧ Q (.tup (xs ++ ys))
  | _, _ => False
theorem opd_catT : OpD F (rCatA F.K) gCatT := ⟨by
  intro N H x y dx dy Qd Q n rx ry h k
  unfold gCatT at h
  split at h
  · rename_i xs ys
    have rx0 := rx
    have ry0 := ry
    obtain ⟨l, vs, rfl, hl, rl⟩ := rx
    obtain ⟨b, ws, rfl, hb, rb⟩ := ry
    refine ⟨l, b, vs, ws, rfl, rfl, sqt_of hl, sqt_of hb, by rw [← rl.length, ← rb.length]; exact h.1, fun e => ?_, fun e1 e2 => ?_, fun _ _ p hp => k _ _ _ (n.lay hp) (rep_newT n hp (rl.append rb)) h.2⟩
    · have : xs = [] := List.eq_nil_of_length_eq_zero (by rw [rl.length, e]; rfl)
      subst this
      exact k _ _ _ Ext.refl ry0 h.2
    · have : ys = [] := List.eq_nil_of_length_eq_zero (by rw [rb.length, e2]; rfl)
      subst this
      refine k _ _ _ Ext.refl rx0 ?_
      have z := h.2
      rw [List.append_nil] at z
      exact z
  · exact h.elim⟩
def gAddA : G2 := fun x y Q => match x, y with
  | .int i, .int j => Q (.int (i + j))
  | .lst xs, .lst ys => xs.length + ys.length ≤ sizeLine ∧ Q (.lst (xs ++ ys))
  | .tup xs, .tup ys => xs.length + ys.length ≤ sizeLine ∧ Q (.tup (xs ++ ys))
  | _, _ => False
theorem opd_addA : OpD F (fun x y H Q => rI0 (fun i j => .int (i + j)) x y H Q ∨ (rCat x y H Q ∨ rCatA F.K x y H Q)) gAddA :=
  opd_or (g := gAdd) (g' := fun x y Q => gCatL x y Q ∨ gCatT x y Q) (opd_I0 fun _ _ _ _ => rfl) (opd_or opd_catL opd_catT fun _ _ _ h => h) (by
    intro x y Q h
    unfold gAddA at h
    split at h
    · exact .inl h
    · exact .inr (.inl h)
    · exact .inr (.inr h)
    · exact h.elim)
theorem d_addA (hK : F.K = X.K) (ha : PE X a (tD F Ta)) (hb : PE X b (tD F Tb)) : PE X (.BinOp a .Add b pos) (tD F (dBin gAddA Ta Tb)) := by
  have o := opd_addA (F := F)
  rw [hK] at o
  exact d_op (op_add.or (op_cat.or op_catA)) o ha hb
def gRepL : G2 := fun x y Q => match x, y with
  | .lst xs, .int k => (-(2 ^ 63) ≤ k ∧ k < 2 ^ 63 ∧ xs.length * k.toNat ≤ sizeLine) ∧ Q (.lst (List.replicate k.toNat xs).flatten)
  | _, _ => False
theorem reps_flat {K : PySem.W.Frag} {Z : Zn} {N : Addr → Prop} {H : Hp} {xs : List D} {vs : List V} (r : Reps K Z N H xs vs) : ∀ n, Reps K Z N H (List.replicate n xs).flatten (List.replicate n vs).flatten
  | 0 => rfl
  | n + 1 => by
    rw [List.replicate_succ, List.replicate_succ, List.flatten_cons, List.flatten_cons]
    exact r.append (reps_flat r n)
theorem opd_repL : OpD F rRep gRepL := ⟨by
  intro N H x y dx dy Qd Q n rx ry h k
  unfold gRepL at h
  split at h
  · obtain ⟨l, vs, rfl, nl, hl, rl⟩ := rx
    cases (show y = .int _ from ry)
    exact ⟨l, _, vs, rfl, rfl, hl, h.1.1, h.1.2.1, by rw [← rl.length]; exact h.1.2.2, fun p hp => k _ _ _ (n.lay hp) (rep_newL n hp (reps_flat rl _)) h.2⟩
  · exact h.elim⟩
def gMulA : G2 := fun x y Q => match x, y with
  | .int i, .int j => CMulW i j ∧ Q (.int (i * j))
  | .lst xs, .int k => (-(2 ^ 63) ≤ k ∧ k < 2 ^ 63 ∧ xs.length * k.toNat ≤ sizeLine) ∧ Q (.lst (List.replicate k.toNat xs).flatten)
  | _, _ => False
theorem opd_mulA : OpD F (fun x y H Q => rI CMulW (fun i j => .int (i * j)) x y H Q ∨ rRep x y H Q) gMulA :=
  opd_or (g := gMul) (opd_I fun _ _ _ _ => rfl) opd_repL (by
    intro x y Q h
    unfold gMulA at h
    split at h
    · exact .inl h
    · exact .inr h
    · exact h.elim)
theorem d_mulA (ha : PE X a (tD F Ta)) (hb : PE X b (tD F Tb)) : PE X (.BinOp a .Mult b pos) (tD F (dBin gMulA Ta Tb)) := d_op (op_mulW.or op_rep) opd_mulA ha hb
/-! ### // of great ints, by any divisor but 0 -/
def CDivB (i j : Int) : Prop := j ≠ 0 ∧ i.natAbs.log2 < 13000
theorem near_div {i j : Int} (h : i.natAbs.log2 < 13000) : Builtin.divisionGoesByPylong i j = false := by
  unfold Builtin.divisionGoesByPylong
  have a : (if i == 0 then 0 else i.natAbs.log2 / 30 + 1) ≤ 434 := by split <;> omega
  simp only [Bool.and_eq_false_iff, decide_eq_false_iff_not]
  omega
theorem op_fdivB : OpR X (binaryOp .FloorDiv) (rI CDivB fun i j => .int (i.fdiv j)) := opI fun i j _ _ _ _ _ hc q => floordiv_int hc.1 q (.inl (near_div hc.2))
abbrev gDivB : G2 := gI CDivB fun i j => .int (i.fdiv j)
theorem d_divB (ha : PE X a (tD F Ta)) (hb : PE X b (tD F Tb)) : PE X (.BinOp a .FloorDiv b pos) (tD F (dBin gDivB Ta Tb)) := d_op op_fdivB (opd_I fun _ _ _ _ => rfl) ha hb
end
end DL
set_option Elab.async false
set_option linter.all false
set_option maxRecDepth 100000
set_option maxHeartbeats 2000000
/-! texts of great ints: the digits' limit is the usual one -/
namespace DL
open PySem PySem.Spec L2
open PyProof.Rows hiding St
/-- the limit of digits was never set -/
def NoMax (h : Heap) : Prop := ∃ mc, h.Ns cStatics mc ∧ mc "sys.int_max_str_digits" = none
theorem NoMax.keeps {h h' : Heap} (x : NoMax h) (k : ∀ b o, h.get? b = some o → h'.get? b = some o) : NoMax h' := by
  obtain ⟨mc, ⟨o, es, ep, e, d, r⟩, q⟩ := x
  exact ⟨mc, ⟨o, es, ep, k _ _ e, d, r⟩, q⟩
section
variable {M : Model} {A : Around} {E : Value → Shared → Prop} {s : Shared}
theorem over_none {a : Int} (h : a.natAbs.log2 < 12900) (hn : NoMax s.heap) {Q : Option Nat → Shared → Prop} (q : Q none s) : wpAny M A (Builtin.overDigitLimit? a) Q E s := by
  unfold Builtin.overDigitLimit?
  by_cases h1 : a.natAbs.log2 < 1920
  · rw [if_pos h1]; exact wpAny_pure q
  rw [if_neg h1]
  obtain ⟨mc, hns, hk⟩ := hn
  unfold Builtin.intMaxStrDigits
  refine wpAny_bind (wpAny_bind (wpAny_nsGet hns ?_))
  rw [hk]
  refine wpAny_pure ?_
  have h2 : ¬ (a.natAbs.log2 / 30 + 1 > 1000) := by omega
  have h3 : ((4300 == 0) || decide (a.natAbs.log2 < 3 * 4300)) = true := by
    rw [Bool.or_eq_true]; exact .inr (decide_eq_true (by omega))
  simp only [h2, if_false, h3, if_true]
  exact wpAny_pure q
theorem gives_repr_big (a : Int) (t : Tok) (h : a.natAbs.log2 < 12900) : GivesAt (fun s => NoMax s.heap) (Builtin.«int.__repr__» ⟨[.int a t], []⟩) (.str (toString a)) := by
  intro prog w A R s hn hp
  unfold Builtin.«int.__repr__»
  show wpAny (model prog w) A.in1 (do let r ← Builtin.overDigitLimit? a; _) _ _ s
  refine wpAny_bind (over_none h hn ?_)
  exact (show Gives _ (.str (toString a)) from .of_eq rfl) prog w A R s hp
end
section
variable {prog : Program} {w : World} {A : Around} {E : Value → Shared → Prop} {s : Shared}
theorem big_fits {a : Int} (h : a.natAbs.log2 < 12900) : (Str.ofString (toString a)).length ≤ sizeLine := by
  have e := int_text_length_le (k := 12900) (by decide) h
  rw [PySem.ofString_length, sizeLine_eq]
  omega
theorem reprObj_big {a : Int} {t : Tok} {Q : Value → Shared → Prop} (ha : a.natAbs.log2 < 12900) (hn : NoMax s.heap) (h : Q (.str (toString a) s.toks) { s with toks := s.toks + 1 }) : wpAny (model prog w) A (pyReprObj (.int a t)) Q E s := by
  unfold pyReprObj
  have hv : [Value.int a t].any Value.onHeap = false := rfl
  simp only [cRoomFor, hv, Bool.false_eq_true, if_false, pure_bind]
  refine wpAny_bind (wpAny_specialOf (name := Str.ofString "__repr__") (typeIs_int s a t) F.slot_int_repr.lookup ?_)
  refine wpAny_bind (m := callSpecialIfBound? (.int a t) (Str.ofString "__repr__")) (wpAny_callSpecialIfBound?_slot (name := Str.ofString "__repr__") (typeIs_int s a t) F.slot_int_repr (call_givesAt F.slot_int_repr (typeIs_int s a t) F.entry_int_repr (F.args_int_repr_1 _) (gives_repr_big a t ha) hn ⟨big_fits ha, ?_⟩))
  exact wpAny_bind (wpAny_isInstance (T := "str") (b := true) rfl isSubtype_str_str (wpAny_pure h))
theorem ReprK.big {h₀ : Heap} {a : Int} (t : Tok) (ha : a.natAbs.log2 < 12900) (hn : NoMax h₀) (as : List Addr) (d : Nat) : ReprK prog w as h₀ d (.int a t) (toString a) := fun n hb A _ E s Q _ _ _ hk hQ => by
  have hn' : n ≤ sizeLine := by omega
  rw [pyReprUnder_leaf (v := .int a t) hn' (fun _ e => nomatch e)]
  unfold pyRepr
  exact wpAny_bind (reprObj_big ha (hn.keeps hk) (wpAny_pure (hQ s.heap _ fun _ _ e => e)))
end
/-! ### data without dicts, ints of up to 12900 bits -/
mutual
def bigOk : PyData → Bool
  | .none | .bool _ | .str _ => true
  | .int i => decide (i.natAbs.log2 < 12900)
  | .list xs | .tuple xs => bigOks xs
  | .dict _ => false
def bigOks : List PyData → Bool
  | [] => true
  | x :: xs => bigOk x && bigOks xs
end
section
variable {prog : Program} {w : World} {h₀ : Heap}
theorem ram_cons {n : Nat} {a : Addr} {d : PyData} {as bs : List Addr} {m : Nat} (r : Reads h₀ (.ref a) d as) (h1 : d.depth ≤ m) (h2 : n ≤ m) (hb : ReadAtMost h₀ n bs) : ReadAtMost h₀ m (a :: bs) := by
  intro b q
  cases q with
  | head => exact ⟨_, _, r, h1⟩
  | tail _ q =>
    obtain ⟨e, cs, r', l⟩ := hb b q
    exact ⟨e, cs, r', Nat.le_trans l h2⟩
/-- the text of v is told, whatever else happens -/
def Told (prog : Program) (w : World) (h₀ : Heap) (v : Value) (n : Nat) (t : Str) : Prop := ∃ bs, ReadAtMost h₀ n bs ∧ ReprK prog w bs h₀ n v t
def Tolds (prog : Program) (w : World) (h₀ : Heap) (vs : List Value) (n : Nat) (ts : List Str) : Prop := ∃ bs, ReadAtMost h₀ n bs ∧ ReprAllK prog w bs h₀ n vs ts
theorem Told.flat {v : Value} {n : Nat} {t : Str} (h : ReprK prog w [] h₀ n v t) : Told prog w h₀ v n t := ⟨[], nofun, h⟩
theorem Tolds.nil {n : Nat} : Tolds prog w h₀ [] n [] := ⟨[], nofun, .nil⟩
theorem Tolds.cons {v : Value} {vs : List Value} {n m : Nat} {t : Str} {ts : List Str} (h : Told prog w h₀ v n t) (r : Tolds prog w h₀ vs m ts) : Tolds prog w h₀ (v :: vs) (max n m) (t :: ts) := by
  obtain ⟨b, hb, k⟩ := h
  obtain ⟨c, hc, q⟩ := r
  refine ⟨b ++ c, fun p hp => ?_, .cons ((k.more fun p hp => List.mem_append.mpr (.inl hp)).level_le (Nat.le_max_left n m)) (q.more_le (fun p hp => List.mem_append.mpr (.inr hp)) (Nat.le_max_right n m))⟩
  rcases List.mem_append.mp hp with z | z
  · obtain ⟨e, cs, x, y⟩ := hb p z
    exact ⟨e, cs, x, Nat.le_trans y (Nat.le_max_left n m)⟩
  · obtain ⟨e, cs, x, y⟩ := hc p z
    exact ⟨e, cs, x, Nat.le_trans y (Nat.le_max_right n m)⟩
theorem told_tup {a : Addr} {d : PyData} {xs : List PyData} {as : List Addr} (hd : d = .tuple xs) (r : Reads h₀ (.ref a) d as) (hk : ∀ vs cs, ReadsAll h₀ vs xs cs → Tolds prog w h₀ vs (PyData.depthAll xs) (PyData.shownAll xs)) :
    Told prog w h₀ (.ref a) d.depth d.shown := by
  cases r with
  | tuple h1 h2 h3 h4 =>
    cases hd
    obtain ⟨c, hc, q⟩ := hk _ _ h4
    have dp : (PyData.tuple xs).depth = PyData.depthAll xs + 1 := by simp only [PyData.depth]
    rw [dp, show (PyData.tuple xs).shown = tupleText (PyData.shownAll xs) by simp only [PyData.shown]]
    exact ⟨a :: c, ram_cons (.tuple h1 h2 h3 h4) (Nat.le_of_eq dp) (Nat.le_succ _) hc, ReprK.tuple h1 h2 h3 (not_mem_of_deeper (.tuple h1 h2 h3 h4) (by rw [dp]; exact Nat.lt_succ_self _) hc) q⟩
  | _ => cases hd
theorem told_lst {a : Addr} {d : PyData} {xs : List PyData} {as : List Addr} (hd : d = .list xs) (r : Reads h₀ (.ref a) d as) (hk : ∀ vs cs, ReadsAll h₀ vs xs cs → Tolds prog w h₀ vs (PyData.depthAll xs) (PyData.shownAll xs)) :
    Told prog w h₀ (.ref a) d.depth d.shown := by
  cases r with
  | list h1 h2 h3 h4 =>
    cases hd
    obtain ⟨c, hc, q⟩ := hk _ _ h4
    have dp : (PyData.list xs).depth = PyData.depthAll xs + 1 := by simp only [PyData.depth]
    rw [dp, show (PyData.list xs).shown = listText (PyData.shownAll xs) by simp only [PyData.shown]]
    have na := not_mem_of_deeper (.list h1 h2 h3 h4) (by rw [dp]; exact Nat.lt_succ_self _) hc
    refine ⟨a :: c, ram_cons (.list h1 h2 h3 h4) (Nat.le_of_eq dp) (Nat.le_succ _) hc, ?_⟩
    rename_i o vs n cs
    obtain ⟨l⟩ := vs
    cases l with
    | nil =>
      cases (show ReadsAll h₀ [] xs _ from h4)
      rw [show listText (PyData.shownAll []) = ("[]" : Str) by simp only [PyData.shownAll, listText_nil]]
      exact ReprK.listEmpty h1 h2 h3
    | cons x l => exact ReprK.list h1 h2 h3 na (by simpa using q.length_eq) fun i y e => q.item i y (by simpa using e)
  | _ => cases hd
mutual
theorem told_big (hn : NoMax h₀) : ∀ (d : PyData) {v : Value} {as : List Addr}, Reads h₀ v d as → bigOk d = true → d.shown.length ≤ sizeLine → Told prog w h₀ v d.depth d.shown
  | .none, _, _, r, _, _ => by cases r; rw [show PyData.none.shown = ("None" : Str) by simp only [PyData.shown]]; exact .flat (.of_is .none _ _ _)
  | .bool b, _, _, r, _, _ => by cases r; rw [show (PyData.bool b).shown = ((if b then "True" else "False") : Str) by simp only [PyData.shown]]; exact .flat (.of_is (.bool b) _ _ _)
  | .int i, _, _, r, h, _ => by cases r; rw [show (PyData.int i).shown = toString i by simp only [PyData.shown]]; exact .flat (ReprK.big _ (by simpa [bigOk] using h) hn _ _)
  | .str x, _, _, r, _, z => by cases r; rw [show (PyData.str x).shown = reprText x by simp only [PyData.shown]] at z ⊢; exact .flat (.of_is (.str x _ z) _ _ _)
  | .tuple xs, v, as, r, h, z => by
    rw [show (PyData.tuple xs).shown = tupleText (PyData.shownAll xs) by simp only [PyData.shown]] at z
    have r' := r
    cases r'
    exact told_tup rfl r fun vs cs q => tolds_big hn xs q (by simpa [bigOk] using h) fun t m => Nat.le_trans (tupleText_mem_le m) z
  | .list xs, v, as, r, h, z => by
    rw [show (PyData.list xs).shown = listText (PyData.shownAll xs) by simp only [PyData.shown]] at z
    have r' := r
    cases r'
    exact told_lst rfl r fun vs cs q => tolds_big hn xs q (by simpa [bigOk] using h) fun t m => Nat.le_trans (listText_mem_le m) z
  | .dict _, _, _, _, h, _ => by simp [bigOk] at h
theorem tolds_big (hn : NoMax h₀) : ∀ (ds : List PyData) {vs : List Value} {as : List Addr}, ReadsAll h₀ vs ds as → bigOks ds = true → (∀ t ∈ PyData.shownAll ds, t.length ≤ sizeLine) → Tolds prog w h₀ vs (PyData.depthAll ds) (PyData.shownAll ds)
  | [], _, _, r, _, _ => by cases r; rw [show PyData.shownAll [] = [] by simp only [PyData.shownAll]]; exact .nil
  | d :: ds, _, _, r, h, z => by
    cases r with
    | cons r rs =>
      rw [show PyData.shownAll (d :: ds) = d.shown :: PyData.shownAll ds by simp only [PyData.shownAll]] at z ⊢
      rw [show PyData.depthAll (d :: ds) = max d.depth (PyData.depthAll ds) by simp only [PyData.depthAll]]
      have h' : bigOk d = true ∧ bigOks ds = true := by simpa [bigOks] using h
      exact .cons (told_big hn d r h'.1 (z _ (List.mem_cons_self ..))) (tolds_big hn ds rs h'.2 fun t m => z t (List.mem_cons_of_mem _ m))
end
end
end DL
set_option Elab.async false
set_option linter.all false
set_option maxRecDepth 100000
set_option maxHeartbeats 2000000
namespace DL
open PySem PySem.Spec L2
open PyProof.Rows hiding St
section
variable {prog : Program} {w : World} {h₀ : Heap} {A : Around} {E : Value → Shared → Prop} {s : Shared}
/-- repr of a list or a tuple whose ints are of any usual size -/
theorem repr_seq {a : Addr} {d : PyData} {as : List Addr} {Q : Value → Shared → Prop} (r : Reads s.heap (.ref a) d as) (hn : NoMax s.heap) (hb : bigOk d = true) (hz : d.shown.length ≤ sizeLine) (hg : A.guards = some []) (hu : A.units + (d.depth + 1) < cLine)
    (hQ : ∀ h' u tk, (∀ b o, s.heap.get? b = some o → h'.get? b = some o) → Q (.str d.shown u) { s with heap := h', toks := tk }) : wpAny (model prog w) A (call (.builtin "repr") [.ref a]) Q E s := by
  have hu1 : A.in1.units + d.depth < cLine := by
    show A.units + 1 + d.depth < cLine
    omega
  have r' := r
  cases d with
  | list xs =>
    cases r' with
    | list h1 h2 h3 h4 =>
      rename_i o vs n cs
      have zz : (PyData.list xs).shown = listText (PyData.shownAll xs) := by simp only [PyData.shown]
      have dd : (PyData.list xs).depth = PyData.depthAll xs + 1 := by simp only [PyData.depth]
      rw [zz] at hz hQ
      rw [dd] at hu1
      refine call_repr_slot (T := "list") (by omega) ⟨o, h1, h2⟩ F.slot_list_repr.toG ?_
      obtain ⟨bs, hbs, hk⟩ := tolds_big (prog := prog) (w := w) hn xs h4 (by simpa [bigOk] using hb) fun t m => Nat.le_trans (listText_mem_le m) hz
      obtain ⟨l⟩ := vs
      cases l with
      | nil =>
        cases (show ReadsAll s.heap [] xs _ from h4)
        rw [show listText (PyData.shownAll []) = ("[]" : Str) by simp only [PyData.shownAll, listText_nil]] at hQ
        exact call_list_repr_empty ⟨o, h1, h2⟩ h1 h3 ⟨_, _, rfl, hQ s.heap _ _ fun _ _ e => e⟩
      | cons x l =>
        have na := not_mem_of_deeper r (by rw [dd]; exact Nat.lt_succ_self _) hbs
        exact call_list_reprK h1 h2 h3 na (by simpa using hk.length_eq) (fun i y e => hk.item i y (by simpa using e)) hg (fun b _ => Clear.nil b) hu1 (fun _ _ e => e) (fun h' u tk k => ⟨_, _, rfl, hQ h' u tk k⟩) hz
  | tuple xs =>
    cases r' with
    | tuple h1 h2 h3 h4 =>
      rename_i o vs n
      have zz : (PyData.tuple xs).shown = tupleText (PyData.shownAll xs) := by simp only [PyData.shown]
      have dd : (PyData.tuple xs).depth = PyData.depthAll xs + 1 := by simp only [PyData.depth]
      rw [zz] at hz hQ
      rw [dd] at hu1
      refine call_repr_slot (T := "tuple") (by omega) ⟨_, h1, h2⟩ F.slot_tuple_repr ?_
      obtain ⟨bs, hbs, hk⟩ := tolds_big (prog := prog) (w := w) hn xs h4 (by simpa [bigOk] using hb) fun t m => Nat.le_trans (tupleText_mem_le m) hz
      have na := not_mem_of_deeper r (by rw [dd]; exact Nat.lt_succ_self _) hbs
      exact call_tuple_reprK h1 h2 h3 na hk hg (fun b _ => Clear.nil b) hu1 (fun _ _ e => e) (fun h' u tk k => ⟨_, _, rfl, hQ h' u tk k⟩) hz
  | dict kvs => simp [bigOk] at hb
  | _ => cases r'
end
/-- the module's own facts say that the limit was not set -/
def mxB (K : PySem.W.Frag) : Bool := decide (PySem.W.nsIn K cStatics "sys.int_max_str_digits" = some none)
theorem nomax_of {K : PySem.W.Frag} {h : Heap} (X : K.In h) (hl : h.NoLimit) (c : mxB K = true) : NoMax h := by
  obtain ⟨mc, hn, _⟩ := hl
  exact ⟨mc, hn, PySem.W.ns_none_of X hn (of_decide_eq_true c)⟩
section
variable {X : Cx} {F : FP} {e : Expr} {es : List Expr} {pos : Pos} {Tas : TDA} {pins : List (Addr × Obj)} {σ : L2.St} {H : Hp} {s : Shared}
theorem inv_nomax (I : Inv X pins σ H s) (c : mxB X.K = true) : NoMax s.heap := (nomax_of I.ok.mod.kin I.ok.mod.nolimit c).keeps I.bk
/-- as showOk, of tuples and lists, ints of up to 12900 bits -/
def showB (d : D) : Prop := plain d = true ∧ bigOk (toP d) = true ∧ (toP d).depth ≤ 64 ∧ ((toP d).shown).length ≤ sizeLine
def gReprB : GA := fun xs Q => match xs with
  | [.tup ds] => showB (.tup ds) ∧ Q (.str (toP (.tup ds)).shown)
  | [.lst ds] => showB (.lst ds) ∧ Q (.str (toP (.lst ds)).shown)
  | _ => False
def rReprB (K : PySem.W.Frag) : List V → Hp → VK → Prop := fun vs H Q => ∃ a d, vs = [.ref a] ∧ Dp K H (.ref a) d ∧ bigOk d = true ∧ d.depth ≤ 64 ∧ d.shown.length ≤ sizeLine ∧ Q (.str d.shown) H
theorem cr_reprB (c : mxB X.K = true) (hg : X.A.guards = some []) (hu : X.A.units + 80 < cLine) : CallR X (.builtin "repr") (rReprB X.K) := by
  intro pins s σ H vs us Q I r h
  obtain ⟨a, d, rfl, dp, h1, h3, h4, q⟩ := h
  obtain ⟨u, rfl, rv⟩ := vals1 r
  obtain ⟨as, rd⟩ := Dp.reads I d _ u dp rv
  cases rv
  exact repr_seq rd (inv_nomax I c) h1 h4 hg (by omega) fun h' u tk hk => ⟨.str _, H, I.kept (t' := tk) hk, ⟨_, rfl⟩, q⟩
theorem cd_reprB : CallD F (rReprB F.K) gReprB := ⟨by
  intro N H vs ds Qd Q n r h k
  unfold gReprB at h
  split at h
  · rename_i d
    obtain ⟨v, r, rfl, h1, h2⟩ := r
    cases h2
    obtain ⟨⟨p, s1, s2, s3⟩, q⟩ := h
    have h1' := h1
    obtain ⟨a, vs, rfl, _⟩ := h1'
    exact ⟨a, _, rfl, Rep.dp _ _ p h1, s1, s2, s3, k _ _ _ Ext.refl rep_str q⟩
  · rename_i d
    obtain ⟨v, r, rfl, h1, h2⟩ := r
    cases h2
    obtain ⟨⟨p, s1, s2, s3⟩, q⟩ := h
    have h1' := h1
    obtain ⟨a, vs, rfl, _⟩ := h1'
    exact ⟨a, _, rfl, Rep.dp _ _ p h1, s1, s2, s3, k _ _ _ Ext.refl rep_str q⟩
  · exact h.elim⟩
theorem d_reprB {p : Pos} (hK : F.K = X.K) (c : mxB X.K = true) (hgd : X.A.guards = some []) (hu : X.A.units + 80 < cLine) (hg : Gl X "repr") (hm : X.mg "repr" = none) (ha : PA X (e :: es) (tDA F Tas))
    (he : starEach (e :: es) X.env = (false, eval e X.env) :: starEach es X.env := by rfl) (hpl : (backTo pos (starEach es X.env)).any (·.1) = false := by rfl) : PE X (.Call (.Name "repr" p) (e :: es) [] pos) (tD F (dCB gReprB Tas)) := by
  have z := cd_reprB (F := F)
  rw [hK] at z
  exact d_callB z (cr_reprB c hgd hu) hg hm (by decide +kernel) ha (by decide) (by decide) he hpl
end
end DL
set_option Elab.async false
set_option linter.all false
set_option maxRecDepth 100000
set_option maxHeartbeats 2000000
/-! int of a text of up to 4300 signs -/
namespace DL
open PySem PySem.Spec L2 PySem.NumText
open PyProof.Rows hiding St
section
variable {M : Model} {A : Around} {E : Value → Shared → Prop} {s : Shared}
theorem max_read {Q : Nat → Shared → Prop} (hn : NoMax s.heap) (q : Q 4300 s) : wpAny M A Builtin.intMaxStrDigits Q E s := by
  obtain ⟨mc, hns, hk⟩ := hn
  unfold Builtin.intMaxStrDigits
  refine wpAny_bind (wpAny_nsGet hns ?_)
  rw [hk]
  exact wpAny_pure q
theorem from_text {v : Value} {text : List Nat} {n : Int} {Q : Value → Shared → Prop} (hn : NoMax s.heap) (long : ¬ (text.takeWhile (· != 0)).length ≤ 640)
    (reads : (int_private% "readNumeral") 4300 10 (text.takeWhile (· != 0)) = (int_private% "Numeral.value") n) (whole : ((text.takeWhile (· != 0)).length == text.length) = true) (h : Q (.int n s.toks) { s with toks := s.toks + 1 }) :
    wpAny M A ((int_private% "intFromText") v text 10) Q E s := by
  obtain ⟨hp, g, d, tk, os⟩ := s
  repeat (any_goals (first
    | assumption
    | (with_reducible refine wpAny_ite_false (decide_eq_false long) ?_)
    | (with_reducible refine wpAny_ite_true (decide_eq_true whole) ?_)
    | (with_reducible refine max_read hn ?_)
    | wp_step))
  all_goals (try rw [reads])
  all_goals (try dsimp only)
  repeat (any_goals (first
    | assumption
    | (with_reducible refine wpAny_ite_false (decide_eq_false long) ?_)
    | (with_reducible refine wpAny_ite_true (decide_eq_true whole) ?_)
    | wp_step))
end
structure Box (p : Prop) : Prop where
  it : p
set_option maxHeartbeats 4000000 in
theorem new_wp {x : PySem.Str} {u : Tok} {n : Int} (h1 : 640 < (numSeenOf x).length) (h2 : x.length ≤ sizeLine) (told : PySem.intText? x = some n) {M : Model} {A : Around} {E : Value → Shared → Prop} {s : Shared} {Q : Value → Shared → Prop}
    (hn : NoMax s.heap) (h : Q (.int n s.toks) { s with toks := s.toks + 1 }) : wpAny M A (Builtin.«int.__new__» ⟨[.type "int", .str x u], []⟩) (fun fin s' => ∃ v, fin = .done (.ret v) ∧ Q v s') E s := by
  have hk : Box (¬ (numSeenOf x).length ≤ 640 ∧ (int_private% "readNumeral") 4300 10 (numSeenOf x) = (int_private% "Numeral.value") n ∧ ((numSeenOf x).length == (numTextOf x).length) = true) := by
    rcases read4300 x h2 with ⟨m, q1, q2, q3⟩ | ⟨q1, _⟩
    · rw [told] at q1
      cases q1
      exact ⟨by omega, q3, q2⟩
    · rw [told] at q1
      cases q1
  clear h1 h2 told
  obtain ⟨hp, g, d, tk, os⟩ := s
  have w1 := F.conv_sub_int
  have w2 := F.madeHere_int
  have w3 := PySem.W.KIN.str_int
  have w4 := PySem.W.KIN.str_idx
  have w5 := PySem.W.KIN.str_trunc
  have w6 : typeOf (.str x u) = pure (.type "str") := rfl
  repeat (any_goals (first
    | assumption
    | ((with_reducible show wpAny _ _ ((int_private% "intFromText") _ _ _) _ _ _); refine from_text hn hk.it.1 hk.it.2.1 hk.it.2.2 ?_)
    | wp_step))
  all_goals first | exact ⟨_, rfl, h⟩ | skip
section
variable {prog : Program} {w : World} {A : Around} {E : Value → Shared → Prop} {s : Shared} {Q : Value → Shared → Prop}
theorem int_text43 {x : PySem.Str} {t : Tok} {n : Int} (h1 : 640 < (numSeenOf x).length) (h2 : x.length ≤ sizeLine) (told : PySem.intText? x = some n) (hn : NoMax s.heap) (h : Q (.int n s.toks) { s with toks := s.toks + 1 }) :
    wpAny (model prog w) A (call (.type "int") [.str x t]) Q E s := by
  refine call_int_1 (S := fun _ R s => NoMax s.heap ∧ R (.ok (.ret (.int n s.toks))) { s with toks := s.toks + 1 }) ?_ ⟨hn, PySem.typeIs_int _ _ _, h⟩
  intro prog w A R s hs
  exact wpAny_mono (new_wp h1 h2 told (Q := fun v s' => R (.ok (.ret v)) s') hs.1 hs.2) (fun fin s' ⟨v, e, q⟩ => by subst e; exact q) fun _ _ z => z
end
end DL
set_option Elab.async false
set_option linter.all false
set_option maxRecDepth 100000
set_option maxHeartbeats 2000000
namespace DL
open PySem PySem.Spec L2 PySem.NumText
open PyProof.Rows hiding St
theorem nine_seen (n : Nat) : (numSeenOf (nine (n + 1))).length = n + 1 := by
  have hall : ((nine (n + 1)).cps.all (· < 128)) = true := by
    rw [← Array.all_toList, nine_cps, List.all_eq_true]
    intro x hx
    rw [(List.mem_replicate.mp hx).2]
    rfl
  have e1 : numTextOf (nine (n + 1)) = List.replicate (n + 1) 57 := by
    unfold numTextOf
    rw [if_pos hall, nine_cps]
  unfold numSeenOf
  rw [e1, List.takeWhile_replicate]
  exact List.length_replicate
section
variable {X : Cx} {F : FP} {Ta Tb : TDE} {Tas : TDA} {e a b c : Expr} {es : List Expr} {pos : Pos} {st : Stmt}
theorem call_int_strB (m : mxB X.K = true) : CallR X (.type "int") (fun xs H Q => ∃ a n, xs = [.str a] ∧ PySem.intText? a = some n ∧ a.length ≤ 4300 ∧ (a.length ≤ 640 ∨ 640 < (numSeenOf a).length) ∧ Q (.int n) H) := by
  intro pins s σ H xs us Q I rs h
  obtain ⟨a, n, rfl, hn, hl, hc, h⟩ := h
  obtain ⟨u, rfl, t, rfl⟩ := vals1 rs
  rcases hc with hc | hc
  · exact PySem.W.KIN.call_text hn hc ⟨.int n, H, I.tok _, ⟨_, rfl⟩, h⟩
  · exact int_text43 hc (Nat.le_trans hl (by rw [sizeLine_eq]; omega)) hn (inv_nomax I m) ⟨.int n, H, I.tok _, ⟨_, rfl⟩, h⟩
def gNinesB : G1 := fun x Q => match x with
  | .int n => (2 ≤ n ∧ n ≤ 4300) ∧ Q (.int (10 ^ n.toNat - 1))
  | _ => False
theorem d_ninesB {k : Nat} {p p1 p2 : Pos} {n : Expr} (m : mxB X.K = true) (hg : Gl X "int") (hm : X.mg "int" = none) (hn : PE X n (tD F Ta)) (he : starEach [.BinOp (.Constant (.str "9") k p1) .Mult n p2] X.env = (false, eval (.BinOp (.Constant (.str "9") k p1) .Mult n p2) X.env) :: starEach [] X.env := by rfl)
    (hpl : (backTo pos (starEach [] X.env)).any (·.1) = false := by rfl) : PE X (.Call (.Name "int" p) [.BinOp (.Constant (.str "9") k p1) .Mult n p2] [] pos) (tD F (dUn gNinesB Ta)) :=
  PE.imp (pe_callTy (call_int_strB m) hg hm (by decide +kernel) (pa_cons (pe_op op_nine pe_str hn) pa_nil he) (by decide) (by decide) he hpl) (by
  rintro σ H Q ⟨N, env, Qd, f, hT, k⟩
  refine ⟨N, env, _, f, hT, fun v H1 d e1 r q => ?_⟩
  cases d <;> first | exact q.elim | skip
  rename_i n
  obtain ⟨⟨h1, h2⟩, q⟩ := q
  refine ⟨n, rfl, r, ⟨h1, by omega⟩, ?_⟩
  obtain ⟨m, hm⟩ : ∃ m, n.toNat = m + 1 := ⟨n.toNat - 1, by omega⟩
  refine ⟨nine n.toNat, _, rfl, ?_, by rw [nine_len]; omega, ?_, k _ _ _ e1 rep_int q⟩
  · rw [hm]
    exact nine_int m (by omega)
  · rw [nine_len, hm, nine_seen]
    omega)
end
end DL
set_option Elab.async false
set_option linter.all false
set_option maxRecDepth 100000
/-! facts of the program's own exception classes -/
namespace DL
open PySem PySem.Spec L2
open PyProof.Rows hiding St
abbrev excTail : List Value := [.type "Exception", .type "BaseException", .type "object"]
def clsB (K : PySem.W.Frag) (n : Str) : Bool := match PySem.W.nsIn K mainGlobals n with
  | some (some (.ref a)) => PySem.W.excIn K a excTail "Exception.__new__" && PySem.W.keepIn K (.ref a) && decide (PySem.W.subIn K (.ref a) (.type "BaseException") = some true) && decide (PySem.W.typeIn K (.ref a) = some (.type "type"))
  | _ => false
def exmB (K : PySem.W.Frag) (n m : Str) (b : Bool) : Bool := decide (PySem.W.exmOne K (clsAt K n) (clsAt K m) = some b)
structure ClsF (K : PySem.W.Frag) (mg : Str → Option Value) (n : Str) (a : Addr) : Prop where
  at_ : clsAt K n = .ref a
  g : mg n = some (.ref a)
  q : PySem.W.excIn K a excTail "Exception.__new__" = true
  kp : PySem.W.keepIn K (.ref a) = true
  sub : PySem.W.subIn K (.ref a) (.type "BaseException") = some true
  ty : PySem.W.typeIn K (.ref a) = some (.type "type")
theorem cls_ok {K : PySem.W.Frag} {h : Heap} {mg : Str → Option Value} (X : K.In h) (G : h.Ns mainGlobals mg) {n : Str} (c : clsB K n = true) : ∃ a, ClsF K mg n a := by
  unfold clsB at c
  split at c
  · rename_i a e
    simp only [Bool.and_eq_true, decide_eq_true_eq] at c
    refine ⟨a, ?_, PySem.W.mg_of X G e, c.1.1.1, c.1.1.2, c.1.2, c.2⟩
    unfold clsAt
    rw [e]
  · cases c
end DL
set_option maxRecDepth 100000
namespace DL
open PySem PySem.Spec L2
/-! ### plain facts for readings -/
theorem ifd {p : Prop} [Decidable p] {A B : Prop} (h1 : p → A) (h2 : ¬ p → B) : if decide p = true then A else B := by
  by_cases h : p
  · rw [decide_eq_true h, if_pos rfl]; exact h1 h
  · rw [decide_eq_false h, if_neg Bool.false_ne_true]; exact h2 h
theorem ifdn {p : Prop} [Decidable p] {A B : Prop} (h1 : ¬ p → A) (h2 : p → B) : if (!decide p) = true then A else B := by
  by_cases h : p
  · rw [decide_eq_true h]; exact h2 h
  · rw [decide_eq_false h]; exact h1 h
theorem sz {n : Nat} (h : n ≤ 1000 := by decide) : n ≤ sizeLine := Nat.le_trans h (by rw [sizeLine_eq]; decide)
/-- an int of at most n bits -/
def Bd (n : Nat) (i : Int) : Prop := i.natAbs < 2 ^ n
theorem Bd.mono {n m : Nat} {i : Int} (h : Bd n i) (l : n ≤ m) : Bd m i := Nat.lt_of_lt_of_le h (Nat.pow_le_pow_right (by decide) l)
theorem Bd.mul {n m : Nat} {i j : Int} (h : Bd n i) (g : Bd m j) : Bd (n + m) (i * j) := wide_lt h g
theorem Bd.neg {n : Nat} {i : Int} (h : Bd n i) : Bd n (-i) := by unfold Bd; rw [Int.natAbs_neg]; exact h
theorem Bd.add {n : Nat} {i j : Int} (h : Bd n i) (g : Bd n j) : Bd (n + 1) (i + j) := by
  unfold Bd at *
  have : (i + j).natAbs ≤ i.natAbs + j.natAbs := Int.natAbs_add_le i j
  rw [Nat.pow_succ]
  omega
theorem Bd.sub {n : Nat} {i j : Int} (h : Bd n i) (g : Bd n j) : Bd (n + 1) (i - j) := by
  rw [Int.sub_eq_add_neg]
  exact h.add g.neg
theorem Bd.cmul {n m : Nat} {i j : Int} (h : Bd n i) (g : Bd m j) (l : n + m ≤ 900000 := by decide) : CMulW i j :=
  wide_mul (h.mono (Nat.le_succ n)) (g.mono (Nat.le_succ m)) (Nat.succ_pos _) (Nat.succ_pos _) (by omega)
theorem Bd.lit {n : Nat} {i : Int} (h : i.natAbs < 2 ^ n := by decide) : Bd n i := h
theorem Bd.of_le {n : Nat} {i j : Int} (h : Bd n j) (l : i.natAbs ≤ j.natAbs) : Bd n i := Nat.lt_of_le_of_lt l h
theorem Bd.cdiv {n : Nat} {i j : Int} (h : Bd n j) (p : 0 < j) (l : n ≤ 8000 := by decide) : CDivW i j :=
  wide_div p (h.mono (Nat.le_succ n)) (Nat.succ_pos _) (by omega)
theorem bd_small {i : Int} {n m : Nat} (h0 : 0 ≤ i) (h : i < n) (l : n ≤ 2 ^ m := by decide) : Bd m i := by
  unfold Bd
  omega
end DL
set_option Elab.async false
set_option linter.all false
set_option maxRecDepth 100000
set_option maxHeartbeats 2000000
/-! own exception classes whose __init__ stores its one parameter: facts, raise X(e) -/
namespace DL
open PySem PySem.Spec L2
open PySem.Builtin PySem.Builtin.ObjectAttr
open PyProof.Rows hiding St
def exc3 : List Value := [.type "Exception", .type "BaseException", .type "object"]
/-- the class n at C, its __init__ at fI; par: the parameter and the field -/
structure ExF (K : PySem.W.Frag) (mg : Str → Option Value) (n par : Str) (C fI : Addr) : Prop where
  at_ : clsAt K n = .ref C
  g : mg n = some (.ref C)
  q : PySem.W.excInitIn K C exc3 "Exception.__new__" = true
  ov : PySem.W.excOver K C exc3 = true
  sa : PySem.W.findIn K (.ref C) "__setattr__" = some (some (.builtin "object.__setattr__"))
  xf : XfC K C
  tk : PySem.W.takerIn K C par = some none
  no : PySem.W.findIn K (.ref C) par = some none
  iC : PySem.W.findIn K (.ref C) "__init__" = some (some (.ref fI))
  tI : PySem.W.typeIn K (.ref fI) = some (.type "function")
  kC : PySem.W.keepIn K (.ref C) = true
  tyC : PySem.W.typeIn K (.ref C) = some (.type "type")
def exfB (K : PySem.W.Frag) (n par : Str) : Bool := match PySem.W.nsIn K mainGlobals n with
  | some (some (.ref C)) => PySem.W.excInitIn K C exc3 "Exception.__new__" && PySem.W.excOver K C exc3 && decide (PySem.W.findIn K (.ref C) "__setattr__" = some (some (.builtin "object.__setattr__"))) && xfB K C && decide (PySem.W.takerIn K C par = some none) &&
    decide (PySem.W.findIn K (.ref C) par = some none) && PySem.W.keepIn K (.ref C) && decide (PySem.W.typeIn K (.ref C) = some (.type "type")) && (match PySem.W.findIn K (.ref C) "__init__" with
    | some (some (.ref f)) => decide (PySem.W.typeIn K (.ref f) = some (.type "function")) && decide (f = He.fAd K (n, some "__init__"))
    | _ => false)
  | _ => false
theorem exf_ok {K : PySem.W.Frag} {h : Heap} {mg : Str → Option Value} (X : K.In h) (G : h.Ns mainGlobals mg) {n par : Str} (c : exfB K n par = true) : ∃ C, ExF K mg n par C (He.fAd K (n, some "__init__")) := by
  unfold exfB at c
  split at c
  · rename_i C e
    simp only [Bool.and_eq_true, decide_eq_true_eq] at c
    obtain ⟨⟨⟨⟨⟨⟨⟨⟨c1, c2⟩, c3⟩, c4⟩, c5⟩, c6⟩, c7⟩, c8⟩, c9⟩ := c
    split at c9
    · rename_i f ef
      simp only [Bool.and_eq_true, decide_eq_true_eq] at c9
      obtain ⟨d1, d2⟩ := c9
      subst d2
      exact ⟨C, by unfold clsAt; rw [e], PySem.W.mg_of X G e, c1, c2, c3, xfB_ok c4, c5, c6, ef, d1, c7, c8⟩
    · cases c9
  · cases c
theorem sz1 (v : Value) : [v].length ≤ sizeLine := by
  rw [sizeLine_eq]
  exact (by decide : 1 ≤ 16777216)
/-- the fresh exception behind its __init__ -/
structure XiEnd (h h' : Heap) (x C dx t1 : Addr) (par : Str) (v : Value) : Prop where
  keep : ∀ b o, b ≠ x → h.get? b = some o → h'.get? b = some o
  obj : h'.get? x = some { cls := .ref C, dict := some dx, data := .fields #[.ref t1, .none, .none, .none, .bool false, .none] }
  dbig : h.objs.size ≤ dx
  dne : dx ≠ x
  ns : h'.Ns1 dx (fun y => if y = par then some v else none)
structure XiMade (h h' : Heap) (e C d : Addr) (par : Str) (v : Value) : Prop where
  keep : ∀ b o, h.get? b = some o → h'.get? b = some o
  new : h.objs.size ≤ e
  obj : ∃ oe vs, h'.get? e = some oe ∧ oe.cls = .ref C ∧ oe.dict = some d ∧ oe.data = .fields vs ∧ vs[1]? = some .none
  dbig : h.objs.size ≤ d
  dne : d ≠ e
  ns : h'.Ns1 d (fun y => if y = par then some v else none)
/-- the text of such an __init__ -/
structure InitTx (par : Str) (body : List Stmt) (scope : Scope) : Prop where
  body_ : ∃ q1 q2 q3 q4, body = [.Assign [.Attribute (.Name "self" q1) par q2] (.Name par q3) q4]
  kind : scope.kind = .function
  co : scope.isCoroutine = false
  gen : scope.isGenerator = false
  l1 : scope.names.lookup ("self" : Str) = some .local
  l2 : scope.names.lookup par = some .local
  ne : par ≠ "self"
  nd : (par == ("__debug__" : Str)) = false
  nc : (par == ("__classdict__" : Str)) = false
section
variable {prog : Program} {w : World} {A : Around} {E : Value → Shared → Prop} {R : Result → Shared → Prop} {s : Shared} {K : PySem.W.Frag} {mg : Str → Option Value} {C fI : Addr} {n par : Str}
theorem ld_loc {M : Model} {s : Shared} {name : Str} {scope : Scope} {L a : Addr} {cd : Value} {m : Str → Option Value} {x : Str} {pos : Pos} {v : Value} {Q : Value → Shared → Prop} {A : Around} {E : Value → Shared → Prop} (hn : s.heap.Ns L m) (hv : m x = some v) (h : Q v s)
    (hk : scope.kind = .function) (hl : scope.names.lookup x = some .local) (hd : (x == ("__debug__" : Str)) = false) : wpAny M A (eval (.Name x pos) (envOfC name scope L a cd)) Q E s :=
  wpAny_Name (wpAny_loadName_local hk hl hn hv h) hd
theorem xi_store {hp : Heap} {g : Array GenState} {d : Drawn} {t : Nat} {os : OsState} {name : Str} {tk : Tok} {v : Value} {x : Addr} {fv : Array Value} (T : ExF K mg n name C fI) (X : K.In hp) (hx : hp.get? x = some { cls := .ref C, data := .fields fv })
    (hq : ∀ h' tk' dx, (∀ b o, b ≠ x → hp.get? b = some o → h'.get? b = some o) → hp.objs.size ≤ dx → dx ≠ x → h'.get? x = some { cls := .ref C, dict := some dx, data := .fields fv } →
      h'.Ns1 dx (fun y => if y = name then some v else none) → R (.ok (.ret .none)) ⟨h', g, d, tk', os⟩) :
    codeAny (model prog w) A (.call (.builtin "object.__setattr__") ⟨[.ref x, .str name tk, v], []⟩) R ⟨hp, g, d, t, os⟩ := by
  have lt : x < hp.objs.size := Heap.lt_size hx
  have hxs : x ≠ hp.objs.size := Nat.ne_of_lt lt
  obtain ⟨cd, hcd, hdd⟩ := PySem.W.any_some T.xf.hdC
  have hc : PySem.W.Looks (model prog w) hp (classData C) cd := PySem.W.looks_clsIn X hcd
  refine PySem.W.osa_openX (od := none) (s := ⟨hp, g, d, t, os⟩) PySem.F.store_Exception X ⟨hx, rfl, rfl, trivial⟩ T.ov T.tk fun b => ?_
  obtain ⟨nm, bs, mro, ns, qn, hd, sn, sb, ab, col, del⟩ := cd
  dsimp only at hdd
  subst hdd
  show wpAny _ _ (storeInOwnDict (.ref x) (.ref C) (.str name tk) name v b) _ _ _
  cases b
  all_goals unfold storeInOwnDict ownDictForStores
  all_goals repeat (first | with_reducible refine PySem.HandSPX.store_in_new ?_ ?_ | with_reducible refine wpAny_loadPart_at hx ?_ | with_reducible refine hc.at ?_ | wp_step)
  all_goals first
    | (refine ⟨_, #[], _, (Heap.get?_update_ne _ _ _ _ hxs.symm).trans (Heap.get?_push_at rfl rfl), rfl, fun e he => ?_, fun _ => rfl⟩
       exact absurd he (by simp))
    | (intro h' tk' hn' hs
       have hx₁ : (hp.push { cls := .type "dict", data := .dict #[] }).get? x = some { cls := .ref C, data := .fields fv } := Heap.get?_push_of_some _ hx
       refine hq h' tk' hp.objs.size (fun b o hb ho => ?_) (Nat.le_refl _) hxs.symm ?_ hn'
       · have e1 := Heap.get?_push_of_some { cls := .type "dict", data := .dict #[] } ho
         exact (hs.2 b (Nat.ne_of_lt (Heap.lt_size ho))).trans ((Heap.get?_update_ne _ _ _ _ hb).trans e1)
       · exact (hs.2 x hxs).trans (Heap.get?_update_self _ hx₁ rfl))
/-- __init__ on a fresh exception -/
theorem xi_init {qual : Str} {params : Arguments} {body : List Stmt} {scope : Scope} {fd : FuncData} (T : ExF K mg n par C fI) (F : FunD K "__init__" qual params body scope [] [] fI fd) (B : Binds K fd ["self", par] []) (I : InitTx par body scope) {x t0 : Addr} {v : Value}
    (X : K.In s.heap) (hlim : s.heap.NoLimit) (hx : s.heap.get? x = some (PySem.HandSPX.excO C t0)) (hroom : A.depth < recursionLimit)
    (hq : ∀ h' tk dx, XiEnd s.heap h' x C dx t0 par v → R (.ok (.ret .none)) { s with heap := h', toks := tk }) : codeAny (model prog w) A (.call (.ref fI) ⟨[.ref x, v], []⟩) R s := by
  have bnd := B s [.ref x, v] X rfl
  obtain ⟨oc, od, dV, kV, doc, pm, an, cdv, ct, osl, rfl, lk, hcd, _, _⟩ := F.ex
  obtain ⟨q1, q2, q3, q4, rfl⟩ := I.body_
  have kd : ∀ y : Str, (envOfC qual scope s.heap.objs.size fI cdv).kindOf y = scope.names.lookup y := fun _ => rfl
  refine Att.call_fn (binds := [("self", .ref x), (par, v)]) X hlim lk hcd hroom bnd (by simp [I.l1, I.l2]) (fun s₁ IC => ?_) I.co I.gen I.kind
  obtain ⟨h₁, tk₁, rfl⟩ := IC.toInCall.same
  have k : ∀ b o, s.heap.get? b = some o → h₁.get? b = some o := IC.toInCall.keep
  have hn := IC.toInCall.ns
  have v1 : bindL (envOfC qual scope s.heap.objs.size fI cdv).kindOf [(("self" : Str), Value.ref x), (par, v)] (fun _ => none) "self" = some (.ref x) := by
    simp [bindL, kd, I.l1, I.l2, I.ne.symm, I.ne]
  have v2 : bindL (envOfC qual scope s.heap.objs.size fI cdv).kindOf [(("self" : Str), Value.ref x), (par, v)] (fun _ => none) par = some v := by
    simp [bindL, kd, I.l1, I.l2, I.ne.symm, I.ne]
  have X₁ := X.keeps k
  have hx₁ := k _ _ hx
  have z : s.heap.objs.size < h₁.objs.size := hn.lt
  refine wpAny_execs_cons (plainObj_wpAny_Assign_Attribute ?_ (by rfl))
  refine ld_loc hn v2 (ld_loc hn v1 ?_ I.kind I.l1 (by decide)) I.kind I.l2 I.nd
  refine PySem.W.set_plain X₁ (od := none) ⟨hx₁, rfl, rfl, trivial⟩ T.sa ?_
  refine xi_store T X₁ hx₁ fun h₃ tk₃ dx k₃ dn dne hx₃ hn₃ => ?_
  exact wpAny_execs_nil (hq h₃ tk₃ dx ⟨fun b o hb e => k₃ b o hb (k b o e), hx₃, Nat.le_of_lt (Nat.lt_of_lt_of_le z dn), dne, hn₃⟩)
theorem xi_made {qual : Str} {params : Arguments} {body : List Stmt} {scope : Scope} {fd : FuncData} (T : ExF K mg n par C fI) (F : FunD K "__init__" qual params body scope [] [] fI fd) (B : Binds K fd ["self", par] []) (I : InitTx par body scope) {v : Value}
    (X : K.In s.heap) (hlim : s.heap.NoLimit) (hroom : A.depth + 1 < recursionLimit) (hq : ∀ h' tk e d, XiMade s.heap h' e C d par v → R (.ok (.ret (.ref e))) { s with heap := h', toks := tk }) :
    codeAny (model prog w) A (.call (.ref C) ⟨[v], []⟩) R s := by
  obtain ⟨nm, N, q, bs, bm, hdct, sn, sub, ab, col, dd, k0, k1, k2, k3, k5, hC, hT⟩ := PySem.W.excInit_of X T.q
  obtain ⟨hp, g, dr, tk, os⟩ := s
  have k : ∀ b o, hp.get? b = some o → ((hp.push (PySem.W.kdv_tup [v])).push (PySem.HandSPX.excO C hp.objs.size)).get? b = some o := fun b o e => Heap.get?_push_of_some _ (Heap.get?_push_of_some _ e)
  have at1 : ((hp.push (PySem.W.kdv_tup [v])).push (PySem.HandSPX.excO C hp.objs.size)).get? (hp.objs.size + 1) = some (PySem.HandSPX.excO C hp.objs.size) := by heap_get
  refine PySem.HandSPX.call_own PySem.F.excBase_Exception hT hC (PySem.W.looks_findIn X T.iC) (fun self => PySem.W.bind_fn X self T.tI) (sz1 v) ?_
  refine xi_init (s := ⟨(hp.push (PySem.W.kdv_tup [v])).push (PySem.HandSPX.excO C hp.objs.size), g, dr, tk, os⟩) T F B I (X.keeps k) (hlim.keeps k) at1 ?_ fun h' tk' dx ⟨k', hx, dn, dne, hns⟩ => ?_
  · show A.depth + 1 < recursionLimit
    exact hroom
  · have old : ∀ b o, hp.get? b = some o → h'.get? b = some o := fun b o e => k' b o (Nat.ne_of_lt (Nat.lt_succ_of_lt (Heap.lt_size e))) (k b o e)
    have z : hp.objs.size + 1 + 1 ≤ dx := by
      have y := dn
      rw [Heap.size_push, Heap.size_push] at y
      exact y
    exact ⟨rfl, hq h' tk' (hp.objs.size + 1) dx ⟨old, Nat.le_succ _, ⟨_, _, hx, rfl, rfl, rfl, rfl⟩, Nat.le_trans (Nat.le_trans (Nat.le_succ _) (Nat.le_succ _)) z, dne, hns⟩⟩
end
theorem relO_par {par : Str} {v : V} {v' : Value} (r : RelV v v') (f : Str) : RelO (List.lookup f [(par, v)]) (if f = par then some v' else none) := by
  by_cases e : f = par
  · subst e
    rw [if_pos rfl, List.lookup_cons, beq_self_eq_true]
    exact r
  · have b : (f == par) = false := by simpa using e
    rw [if_neg e, List.lookup_cons, b]
    trivial
section
variable {X : Cx} {C fI : Addr} {n par : Str} {F : FP} {W : WX} {Ta : TDE}
/-- X(e) -/
def tMk1 (C : Addr) (par : Str) (ta : TA) : L2.St → Hp → XK → Prop := fun σ H Q => ta σ H fun vs H1 => ∃ v, vs = [v] ∧ ∀ d, H1 d = none → Q (.ref C) (some d) (upd H1 d (.xd [(par, v)]))
theorem pmk_x1 {a : Expr} {ta : TA} {p pos : Pos} {k : Nat} {qual : Str} {params : Arguments} {body : List Stmt} {scope : Scope} {fd : FuncData} (T : ExF X.K X.mg n par C fI) (Fd : FunD X.K "__init__" qual params body scope [] [] fI fd) (B : Binds X.K fd ["self", par] []) (I0 : InitTx par body scope)
    (hr : Room k X.A) (ha : PA X [a] ta) (hg : Gl X n) (hdb : (n == ("__debug__" : Str)) = false := by decide) (he : starEach (a :: []) X.env = (false, eval a X.env) :: starEach [] X.env := by rfl) (hpl : (backTo pos (starEach [] X.env)).any (·.1) = false := by rfl) :
    PMk X (.Call (.Name n p) [a] [] pos) (tMk1 C par ta) := by
  intro pins s σ H Q I h
  refine wpAny_Call_Name_kw (ld_glob I hg T.g (PySem.W.callWith_K (h₀ := X.base) I.ok.mod.kin T.kC (thn (ha.run pos pins s σ H _ I h) fun us s1 hh => ?_) he hpl) hdb)
  obtain ⟨vs, H1, I1, r1, v, rfl, q1⟩ := hh
  refine ⟨I1.kIn, ?_⟩
  obtain ⟨v', rfl, rv⟩ := vals1 r1
  show wpAny _ _ (call (.ref C) [v']) _ _ _
  have hlim := I1.nolimit
  obtain ⟨hp, g, dr, tk, os⟩ := s1
  refine wpAny_call (xi_made T Fd B I0 I1.kIn hlim (by have := hr.dp; omega) fun h' tk' e d M => ?_)
  show MkP X pins σ Q (.ref e) ⟨h', g, dr, tk', os⟩
  obtain ⟨oe, fv, hoe, hc, hd, hdat, h1⟩ := M.obj
  have hns := M.ns
  obtain ⟨G', g1, g2⟩ := restrict h' fun b => decide (b ≠ e)
  have gk : ∀ b, b ≠ e → G'.get? b = h'.get? b := fun b hb => g1 b (decide_eq_true hb)
  have ge : G'.get? e = none := g2 e (by simp)
  have old : ∀ b o, hp.get? b = some o → G'.get? b = some o := fun b o q => (gk b (Nat.ne_of_lt (Nat.lt_of_lt_of_le (Heap.lt_size q) M.new))).trans (M.keep b o q)
  have ob : ObjOk X.prog X.w (upd H1 d (.xd [(par, v)])) G' d (.xd [(par, v)]) := ⟨_, hns.at (fun o q => (gk d M.dne).trans q), fun f => relO_par rv f⟩
  have J : Inv X pins σ (upd H1 d (.xd [(par, v)])) ⟨G', g, dr, tk', os⟩ := I1.laid (t' := tk') old M.dbig ob
  refine ⟨e, oe, fv, ⟨G', g, dr, tk', os⟩, _, .ref C, some d, rfl, J, fun b o q => ?_, ge, hoe, ⟨hc, hd⟩, hdat, h1, ?_, rfl, I1.bare, raises_own T.xf.exC T.tyC, q1 d (I1.hok.fresh M.dbig)⟩
  · by_cases hb : b = e
    · have q' : G'.get? b = some o := q
      rw [hb, ge] at q'
      cases q'
    · exact (gk b hb).symm.trans q
  · rw [upd_ne (Ne.symm M.dne)]
    exact I1.hok.fresh M.new
def dRaise1 (n par : Str) (Ta : TDE) : TDS := fun ξ _ env => Ta ξ env fun d => ξ ⟨n, [(par, d)]⟩ env
theorem ds_raise1 {a : Expr} {p pos pos2 : Pos} {k : Nat} {qual : Str} {params : Arguments} {body : List Stmt} {scope : Scope} {fd : FuncData} (hc : X.calm = true) (tk : Takes X W) (wo : WOk F W) (hK : F.K = X.K) (T : ExF X.K X.mg n par C fI) (Fd : FunD X.K "__init__" qual params body scope [] [] fI fd)
    (B : Binds X.K fd ["self", par] []) (I0 : InitTx par body scope) (hr : Room k X.A) (ha : PE X a (tD F Ta)) (hg : Gl X n) (hdb : (n == ("__debug__" : Str)) = false := by decide) (he : starEach (a :: []) X.env = (false, eval a X.env) :: starEach [] X.env := by rfl) (hpl : (backTo pos (starEach [] X.env)).any (·.1) = false := by rfl) :
    PS X (.Raise (some (.Call (.Name n p) [a] [] pos)) none pos2) (sD F (dRaise1 n par Ta)) :=
  PS.imp (ps_raise hc tk (pmk_x1 T Fd B I0 hr (pa_cons ha pa_nil he) hg hdb he hpl)) (by
  rintro De σ H ⟨N, env, Dd, f, hT, ok⟩
  refine ⟨N, env, _, f, hT, fun v H1 d e1 r q => ⟨v, rfl, fun dx hdx => ?_⟩⟩
  have f1 := f.ext' e1
  have f2 := f1.ext' (f1.n.lay (o := .xd [(par, v)]) hdx)
  refine wo N σ _ env ⟨n, [(par, d)]⟩ _ (some dx) f2 ⟨by rw [hK]; exact T.at_.symm, .inr ⟨dx, [v], rfl, f1.n.fresh hdx, upd_same, v, [], rfl, ?_, rfl⟩⟩ q
  exact r.ext (f1.n.lay hdx) f1.n.z)
end
end DL
set_option Elab.async false
set_option linter.all false
set_option maxRecDepth 100000
set_option maxHeartbeats 2000000
/-! try with any number of clauses, with and without a name -/
namespace DL
open PySem PySem.Spec L2
open PyProof.Rows hiding St
abbrev HTs := Addr → Value → Option Addr → TS
def atE : Option Nat → Ends → Ends
  | none, D => D
  | some i, D => { nx := fun σ H => D.nx (σ.set i none) H, rt := D.rt, bk := fun σ H => D.bk (σ.set i none) H, ct := fun σ H => D.ct (σ.set i none) H }
def putE : Option Nat → Addr → L2.St → L2.St
  | none, _, σ => σ
  | some i, a, σ => σ.set i (some (.ref a))
/-- the clauses' wish, one behind the other -/
def wNs (K : PySem.W.Frag) (Wout : WX) (D : Ends) : List (Value × Option Nat × HTs) → WX
  | [] => Wout
  | (c, o, ts) :: r => fun cls d σ H => ∃ b, PySem.W.exmOne K cls c = some b ∧ (b = true → ∀ a, H a = none → ts a cls d (atE o D) (putE o a σ) H) ∧ (b = false → wNs K Wout D r cls d σ H)
abbrev SuiteOk (X : Cx) (sts : List Stmt) (ts : HTs) : Prop := ∀ (a : Addr) (oe : Obj) (cls : Value) (d : Option Addr) (pn : List (Addr × Obj)), Zc cls d oe → (∃ vs, oe.data = .fields vs) → PSs (X.suite a ((a, oe) :: pn)) sts (ts a cls d)
inductive HdsN (X : Cx) : List ExceptHandler → List (Value × Option Nat × HTs) → Prop
  | nil : HdsN X [] []
  | one {x : Str} {c : Value} {ts : HTs} {b₀ : Stmt} {suite : List Stmt} {np pos' : Pos} {hds : List ExceptHandler} {l : List (Value × Option Nat × HTs)} (hc : Names X x c) (hsu : SuiteOk X (b₀ :: suite) ts) (r : HdsN X hds l) :
      HdsN X (.ExceptHandler (some (.Name x np)) none (b₀ :: suite) pos' :: hds) ((c, none, ts) :: l)
  | named {x n : Str} {i : Nat} {c : Value} {ts : HTs} {b₀ : Stmt} {suite : List Stmt} {np pos' : Pos} {hds : List ExceptHandler} {l : List (Value × Option Nat × HTs)} (hi : X.N[i]? = some n) (hln : X.env.kindOf n = some .local) (hc : Names X x c) (hsu : SuiteOk X (b₀ :: suite) ts) (r : HdsN X hds l) :
      HdsN X (.ExceptHandler (some (.Name x np)) (some n) (b₀ :: suite) pos' :: hds) ((c, some i, ts) :: l)
section
variable {X : Cx} {body : List Stmt} {h₀ : ExceptHandler} {hds : List ExceptHandler} {l : List (Value × Option Nat × HTs)} {pos : Pos} {tb : WX → TS} {Wout : WX}
theorem not_frame {B h : Heap} {fr : List Env} {a : Addr} {o : Obj} {vs : Array Value} (ff : h.FunFrames B fr) (e : h.get? a = some o) (dd : o.data = .fields vs) : a ∉ frs fr := fun hm => by
  obtain ⟨_, o', e', hnf⟩ := ff.mem hm
  rw [e] at e'
  cases e'
  exact hnf _ dd
theorem ps_try_nm (hs : X.stack = X.env :: X.outer) (hf : X.env.frame = some X.env.locals) (hN : X.N.Nodup) (tk : Takes X Wout)
    (hb : ∀ (W : WX) (pn : List (Addr × Obj)) (xe : Value → Shared → Prop), Takes (X.tr pn xe) W → PassesOwn (model X.prog X.w) X.A X.env xe → PSs (X.tr pn xe) body (tb W))
    (hh : HdsN X (h₀ :: hds) l) : PS X (.Try body (h₀ :: hds) [] [] pos) (fun D σ H => tb (wNs X.K Wout D l) D σ H) := by
  refine ⟨fun pins s σ H D I h => ?_⟩
  have ok := I.ok
  have hfr : X.A.frames = some (X.env :: X.outer) := by rw [ok.frames, hs]
  have body_ := hb (wNs X.K Wout D l) (X.pn ++ pins) (fun e s₁ => wpAny (model X.prog X.w) X.A (noteFrame e X.env) (fun _ s₂ => wpAny (model X.prog X.w) X.A (setFlight e none) (fun _ s₃ =>
    wpAny (model X.prog X.w) X.A (handleBy e X.env (h₀ :: hds)) (SP X pins D) X.xe s₃) X.xe s₂) X.xe s₁)
  refine wpAny_Try_except (wpAny_mono ((body_ (fun u s' xx => ?_) PassesOwn.looking).run [] s σ H D (I.toTry _) h) (fun f s1 hsp => ?_) (fun e s1 he => he))
  · obtain ⟨a, B, sI, pins', σ', H', cls, d, rfl, J', nb, up, sky, na, os, ag, w⟩ := xx
    have J : Inv X pins σ' H' sI := J'.ofTry ok
    rw [show (X.tr (X.pn ++ pins) _).stack = X.env :: X.outer from hs] at sky
    show wpAny (model X.prog X.w) X.A (noteFrame (.ref a) X.env) _ _ _
    refine Sky.land Zc.steady hfr hf sky fun h3 fl3 up3 => ?_
    have J3 : Inv X pins σ' H' { s' with heap := h3 } := J.landed nb fl3.1 (up.trans up3) os ag
    have zc : ∀ o, Zc cls d o → o.cls = cls := fun o z => z.1
    obtain ⟨oe3, vs3, he3, hz3, hd3⟩ := fl3.there
    have nfr := not_frame fl3.2.2.1 he3 hd3
    have nL : a ≠ X.env.locals := fun z => nfr (List.mem_filterMap.mpr ⟨X.env, List.mem_cons_self, by rw [hf, z]⟩)
    have nF : a ∉ X.fs := fun hm => let ⟨e, he, q⟩ := List.mem_filterMap.mp hm; nfr (List.mem_filterMap.mpr ⟨e, List.mem_cons_of_mem _ he, q⟩)
    have S3 := J3.suite he3 hd3 na nL nF
    have test : ∀ {x : Str} {c : Value} {np : Pos}, Names X x c → ∀ {Q : Value → Shared → Prop} {E : Value → Shared → Prop}, Q c { s' with heap := h3 } → wpAny (model X.prog X.w) (X.A.mark (some (.ref a))) (eval (.Name x np) X.env) Q E { s' with heap := h3 } := fun {x c np} hc {Q E} q => by
      obtain ⟨hg, hdbg, hm | ⟨hm, hv, hnn⟩⟩ := hc
      · exact ld_glob S3 hg hm q hdbg
      · exact ld_blt S3 hg hm hv q hnn hdbg
    have suite_ : ∀ {h4 : Heap}, HandSPX.FlyingZ B (X.env :: X.outer) a (Zc cls d) h4 → h3.UpToSlots h4 → ∃ oe4, Zc cls d oe4 ∧ (∃ vs, oe4.data = .fields vs) ∧ Inv (X.suite a ((a, oe4) :: (X.pn ++ pins))) [] σ' H' { s' with heap := h4 } := fun {h4} fl4 up4 => by
      have J4 : Inv X pins σ' H' { s' with heap := h4 } := J.landed nb fl4.1 ((up.trans up3).trans up4) os ag
      obtain ⟨oe4, vs4, he4, hz4, hd4⟩ := fl4.there
      exact ⟨oe4, hz4, ⟨_, hd4⟩, J4.suite he4 hd4 na nL nF⟩
    have go : ∀ {hds' : List ExceptHandler} {l' : List (Value × Option Nat × HTs)}, HdsN X hds' l' → wNs X.K Wout D l' cls d σ' H' →
        wpAny (model X.prog X.w) X.A (handleBy (.ref a) X.env hds') (SP X pins D) X.xe { s' with heap := h3 } := by
      intro hds' l' hk
      induction hk with
      | nil => exact fun w => PX.no_clauseZ (Z := Zc cls d) (B := B) (outer := X.outer) hf fl3 fun h4 hh4 up4 => tk _ _ ⟨a, B, sI, pins, σ', H', cls, d, rfl, J, nb, (up.trans up3).trans up4, .inr (.inr (by rw [hs]; exact hh4)), na, os, ag, w⟩
      | @one x c ts b₀ suite np pos' hds2 l2 hc hsu r ih =>
        rintro ⟨b, hb1, hyes, hno⟩
        cases b with
        | false => exact PX.clause_passZ (Z := Zc cls d) (B := B) (outer := X.outer) J3.kIn zc fl3 hb1 (test hc) (ih (hno rfl))
        | true =>
          refine PX.clause_onlyZ (Z := Zc cls d) (B := B) (outer := X.outer) J3.kIn zc fl3 hb1 (test hc) fun h4 fl4 up4 => ?_
          obtain ⟨oe4, hz4, hd4, S4⟩ := suite_ fl4 up4
          refine wpAny_mono ((hsu a oe4 cls d (X.pn ++ pins) hz4 hd4).run [] _ _ H' _ S4 (hyes rfl a na)) (fun f s6 hsp => ?_) (fun _ _ z => z.elim)
          cases f with
          | next => exact let ⟨σ6, H6, S6, q6⟩ := hsp; ⟨_, _, S6.unsuite ok, q6⟩
          | brk => exact let ⟨σ6, H6, S6, q6⟩ := hsp; ⟨_, _, S6.unsuite ok, q6⟩
          | cont => exact let ⟨σ6, H6, S6, q6⟩ := hsp; ⟨_, _, S6.unsuite ok, q6⟩
          | ret u => exact let ⟨v6, σ6, H6, S6, r6, q6⟩ := hsp; ⟨_, _, _, S6.unsuite ok, r6, q6⟩
      | @named x n i c ts b₀ suite np pos' hds2 l2 hi hln hc hsu r ih =>
        rintro ⟨b, hb1, hyes, hno⟩
        cases b with
        | false => exact PX.clause_passZ (Z := Zc cls d) (B := B) (outer := X.outer) J3.kIn zc fl3 hb1 (test hc) (ih (hno rfl))
        | true =>
          refine PX.clause_asZ (Z := Zc cls d) (B := B) (outer := X.outer) J3.kIn zc fl3 hb1 (test hc) fun h4 fl4 up4 => ?_
          obtain ⟨oe4, hz4, hd4, S4⟩ := suite_ fl4 up4
          refine store_ok (X := X.suite a ((a, oe4) :: (X.pn ++ pins))) (v := .ref a) S4 hN hi (.inl hln) rfl (fun s5 S5 => ?_) (.inr hln)
          refine wpAny_mono ((hsu a oe4 cls d (X.pn ++ pins) hz4 hd4).run [] s5 _ H' _ S5 (hyes rfl a na)) (fun f s6 hsp => ?_) (fun _ _ z => z.elim)
          cases f with
          | next => exact let ⟨σ6, H6, S6, q6⟩ := hsp; gone_ok (S6.unsuite ok) hN hi hln fun s7 J7 => ⟨_, _, J7, q6⟩
          | brk => exact let ⟨σ6, H6, S6, q6⟩ := hsp; gone_ok (S6.unsuite ok) hN hi hln fun s7 J7 => ⟨_, _, J7, q6⟩
          | cont => exact let ⟨σ6, H6, S6, q6⟩ := hsp; gone_ok (S6.unsuite ok) hN hi hln fun s7 J7 => ⟨_, _, J7, q6⟩
          | ret u => exact let ⟨v6, σ6, H6, S6, r6, q6⟩ := hsp; gone_ok (S6.unsuite ok) hN hi hln fun s7 J7 => ⟨_, _, _, J7, r6, q6⟩
    exact go hh w
  · cases f with
    | next => exact let ⟨σ', H', K', q⟩ := hsp; wpAny_execs_nil ⟨σ', H', K'.ofTry ok, q⟩
    | brk => exact let ⟨σ', H', K', q⟩ := hsp; ⟨σ', H', K'.ofTry ok, q⟩
    | cont => exact let ⟨σ', H', K', q⟩ := hsp; ⟨σ', H', K'.ofTry ok, q⟩
    | ret u => exact let ⟨v, σ', H', K', r, q⟩ := hsp; ⟨v, σ', H', K'.ofTry ok, r, q⟩
end
end DL
set_option Elab.async false
set_option linter.all false
set_option maxRecDepth 100000
set_option maxHeartbeats 2000000
/-! try over data: clauses with names; e.f, isinstance(e, C) in a clause -/
namespace DL
open PySem PySem.Spec L2
open PyProof.Rows hiding St
structure Cl where
  m : Str → Option Bool
  i : Option Nat
  h : Addr → DX → TDS
def atD : Option Nat → DEnds → DEnds
  | none, D => D
  | some i, D => { nx := fun env => D.nx (env.set i .un), rt := D.rt, bk := fun env => D.bk (env.set i .un), ct := fun env => D.ct (env.set i .un) }
def putD : Option Nat → Addr → SE → SE
  | none, _, env => env
  | some i, a, env => env.set i (.raw (.ref a))
def wDs (ξ : XW) (De : DEnds) : List Cl → DX → SE → Prop
  | [], x, env => ξ x env
  | c :: r, x, env => match c.m x.cls with
    | some true => ∀ a, c.h a x (fun _ _ => False) (atD c.i De) (putD c.i a env)
    | some false => wDs ξ De r x env
    | none => False
def dTryN (cs : List Cl) (body : TDS) : TDS := fun ξ De env => body (fun x env' => wDs ξ De cs x env') De env
theorem FOk.raw {F : FP} {N : Addr → Prop} {σ : L2.St} {H : Hp} {env : SE} (f : FOk F N σ H env) (i : Nat) (v : V) : FOk F N (σ.set i (some v)) H (env.set i (.raw v)) where
  n := f.n
  len := by rw [List.length_set, List.length_set]; exact f.len
  slot := fun j s h => by
    by_cases hj : i = j
    · subst hj
      have hl : i < env.length := by
        have := (List.getElem?_eq_some_iff.mp h).1
        rwa [List.length_set] at this
      rw [List.getElem?_set_self hl] at h
      cases h
      show (σ.set i (some v))[i]? = some (some v)
      rw [List.getElem?_set_self (by rw [f.len]; exact hl)]
    · rw [List.getElem?_set_ne hj] at h
      rw [List.getElem?_set_ne hj]
      exact f.slot j s h
  apart := fun j k p xs ys hjk h1 h2 h3 h4 => by
    have o : ∀ {j : Nat} {xs : List D}, (env.set i (.raw v))[j]? = some (.own xs) → i ≠ j ∧ env[j]? = some (.own xs) := fun {j xs} h => by
      by_cases hj : i = j
      · subst hj
        have hl : i < env.length := by
          have := (List.getElem?_eq_some_iff.mp h).1
          rwa [List.length_set] at this
        rw [List.getElem?_set_self hl] at h
        cases h
      · rw [List.getElem?_set_ne hj] at h
        exact ⟨hj, h⟩
    obtain ⟨n1, h1⟩ := o h1
    obtain ⟨n2, h2⟩ := o h2
    rw [List.getElem?_set_ne n1] at h3
    rw [List.getElem?_set_ne n2] at h4
    exact f.apart j k p xs ys hjk h1 h2 h3 h4
theorem FOk.put {F : FP} {N : Addr → Prop} {σ : L2.St} {H : Hp} {env : SE} (f : FOk F N σ H env) (o : Option Nat) (a : Addr) : FOk F N (putE o a σ) H (putD o a env) := by
  cases o with
  | none => exact f
  | some i => exact f.raw i _
theorem EndsOk.at {F : FP} {N : Addr → Prop} {H : Hp} {Dd : DEnds} {De : Ends} (ok : EndsOk F N H Dd De) (o : Option Nat) : EndsOk F N H (atD o Dd) (atE o De) := by
  cases o with
  | none => exact ok
  | some i => exact ⟨fun N' σ H' env f ev q => ok.nx N' _ H' _ (f.un i) ev q, ok.rt, fun N' σ H' env f ev q => ok.bk N' _ H' _ (f.un i) ev q, fun N' σ H' env f ev q => ok.ct N' _ H' _ (f.un i) ev q⟩
theorem EndsOk.rebase {F : FP} {N : Addr → Prop} {H : Hp} {Dd : DEnds} {De : Ends} {ex : XW} (ok : EndsOk F N H Dd De) (g : Evo F.N1 F.H1 N H) : EndsOk { F with ex := ex, N1 := N, H1 := H } N H Dd De :=
  ⟨fun N' σ H' env f ev q => ok.nx N' σ H' env (f.back g) ev q, ok.rt, fun N' σ H' env f ev q => ok.bk N' σ H' env (f.back g) ev q, fun N' σ H' env f ev q => ok.ct N' σ H' env (f.back g) ev q⟩
/-- what a suite may lean on -/
structure SuiteF (F : FP) (c : Cl) (cls : Value) (d : Option Addr) (y : DX) (F' : FP) : Prop where
  k : F'.K = F.K
  z : F'.Z = F.Z
  ex : F'.ex = fun _ _ => False
  xr : XRep F'.K F'.Z F'.N1 F'.H1 y cls d
  m : c.m y.cls = some true
abbrev tsD (F : FP) (c : Cl) : HTs := fun a cls d De σ H => ∃ (y : DX) (F' : FP), SuiteF F c cls d y F' ∧ sD F' (c.h a y) De σ H
abbrev SuiteD (X : Cx) (F : FP) (sts : List Stmt) (c : Cl) : Prop := ∀ (a : Addr) (oe : Obj) (cls : Value) (d : Option Addr) (pn : List (Addr × Obj)) (y : DX) (F' : FP), Zc cls d oe → (∃ vs, oe.data = .fields vs) → SuiteF F c cls d y F' → PSs (X.suite a ((a, oe) :: pn)) sts (sD F' (c.h a y))
theorem suite_d {X : Cx} {F : FP} {sts : List Stmt} {c : Cl} (h : SuiteD X F sts c) : SuiteOk X sts (tsD F c) := fun a oe cls d pn hz hv =>
  PSs.exP fun y => PSs.exP fun F' => PSs.andP fun s => h a oe cls d pn y F' hz hv s
/-- the clauses below and over data -/
inductive HdD (X : Cx) (F : FP) : List ExceptHandler → List (Value × Option Nat × HTs) → List Cl → Prop
  | nil : HdD X F [] [] []
  | one {x : Str} {c : Value} {cl : Cl} {b₀ : Stmt} {suite : List Stmt} {np pos' : Pos} {hds : List ExceptHandler} {l : List (Value × Option Nat × HTs)} {cs : List Cl} (hc : Names X x c) (hi : cl.i = none) (hm : ∀ n b, cl.m n = some b → PySem.W.exmOne X.K (clsAt X.K n) c = some b)
      (hsu : SuiteD X F (b₀ :: suite) cl) (r : HdD X F hds l cs) : HdD X F (.ExceptHandler (some (.Name x np)) none (b₀ :: suite) pos' :: hds) ((c, none, tsD F cl) :: l) (cl :: cs)
  | named {x n : Str} {i : Nat} {c : Value} {cl : Cl} {b₀ : Stmt} {suite : List Stmt} {np pos' : Pos} {hds : List ExceptHandler} {l : List (Value × Option Nat × HTs)} {cs : List Cl} (hn : X.N[i]? = some n) (hln : X.env.kindOf n = some .local) (hc : Names X x c) (hi : cl.i = some i)
      (hm : ∀ n b, cl.m n = some b → PySem.W.exmOne X.K (clsAt X.K n) c = some b) (hsu : SuiteD X F (b₀ :: suite) cl) (r : HdD X F hds l cs) : HdD X F (.ExceptHandler (some (.Name x np)) (some n) (b₀ :: suite) pos' :: hds) ((c, some i, tsD F cl) :: l) (cl :: cs)
theorem HdD.nm {X : Cx} {F : FP} {hds : List ExceptHandler} {l : List (Value × Option Nat × HTs)} {cs : List Cl} (h : HdD X F hds l cs) : HdsN X hds l := by
  induction h with
  | nil => exact .nil
  | one hc hi hm hsu r ih => exact .one hc (suite_d hsu) ih
  | named hn hln hc hi hm hsu r ih => exact .named hn hln hc (suite_d hsu) ih
theorem HdD.wish {X : Cx} {F : FP} {W : WX} {hds : List ExceptHandler} {l : List (Value × Option Nat × HTs)} {cs : List Cl} (h : HdD X F hds l cs) (hK : F.K = X.K) (wo : WOk F W) {N : Addr → Prop} {σ : L2.St} {H : Hp} {env : SE} {y : DX} {cls : Value} {d : Option Addr} {Dd : DEnds} {De : Ends}
    (f : FOk F N σ H env) (xr : XRep F.K F.Z N H y cls d) (ok : EndsOk F N H Dd De) (hw : wDs F.ex Dd cs y env) : wNs X.K W De l cls d σ H := by
  have step : ∀ (cl : Cl), cl.m y.cls = some true → (∀ a, cl.h a y (fun _ _ => False) (atD cl.i Dd) (putD cl.i a env)) → ∀ a, tsD F cl a cls d (atE cl.i De) (putE cl.i a σ) H := fun cl m hh a =>
    ⟨y, { F with ex := fun _ _ => False, N1 := N, H1 := H }, ⟨rfl, rfl, rfl, xr, m⟩, N, putD cl.i a env, atD cl.i Dd, (f.rebase _).put cl.i a, hh a, (ok.rebase f.n.gr).at cl.i⟩
  induction h with
  | nil => exact wo N σ H env y cls d f xr hw
  | @one x c cl b₀ suite np pos' hds l cs hc hi hm hsu r ih =>
    unfold wDs at hw
    split at hw
    · rename_i m
      refine ⟨true, by rw [xr.1, hK]; exact hm _ _ m, fun _ a _ => ?_, fun z => Bool.noConfusion z⟩
      have := step cl m hw a
      rw [hi] at this
      exact this
    · rename_i m
      exact ⟨false, (by rw [xr.1, hK]; exact hm _ _ m), (fun z => Bool.noConfusion z), fun _ => ih hw⟩
    · exact hw.elim
  | @named x n i c cl b₀ suite np pos' hds l cs hn hln hc hi hm hsu r ih =>
    unfold wDs at hw
    split at hw
    · rename_i m
      refine ⟨true, by rw [xr.1, hK]; exact hm _ _ m, fun _ a _ => ?_, fun z => Bool.noConfusion z⟩
      have := step cl m hw a
      rw [hi] at this
      exact this
    · rename_i m
      exact ⟨false, (by rw [xr.1, hK]; exact hm _ _ m), (fun z => Bool.noConfusion z), fun _ => ih hw⟩
    · exact hw.elim
/-- a frame within a frame: of the same things -/
structure Sub (F F' : FP) : Prop where
  k : F'.K = F.K
  z : F'.Z = F.Z
  b : F'.B = F.B
  h : F'.H0 = F.H0
  g : Evo F.N1 F.H1 F'.N1 F'.H1
section
variable {X : Cx} {F : FP} {W : WX}
theorem ds_tryN {body : List Stmt} {h₀ : ExceptHandler} {hds : List ExceptHandler} {l : List (Value × Option Nat × HTs)} {cs : List Cl} {pos : Pos} {Tb : TDS} (hK : F.K = X.K) (hs : X.stack = X.env :: X.outer) (hf : X.env.frame = some X.env.locals) (hN : X.N.Nodup) (tk : Takes X W) (wo : WOk F W)
    (hb : ∀ (W : WX) (pn : List (Addr × Obj)) (xe : Value → Shared → Prop) (F' : FP), Takes (X.tr pn xe) W → PassesOwn (model X.prog X.w) X.A X.env xe → Sub F F' → WOk F' W → PSs (X.tr pn xe) body (sD F' Tb))
    (hh : HdD X F (h₀ :: hds) l cs) : PS X (.Try body (h₀ :: hds) [] [] pos) (sD F (dTryN cs Tb)) := by
  refine PS.imp (ps_try_nm (tb := fun W De σ H => ∃ F' : FP, (Sub F F' ∧ WOk F' W) ∧ sD F' Tb De σ H) hs hf hN tk (fun W pn xe t1 p1 => PSs.exP fun F' => PSs.andP fun h => hb W pn xe F' t1 p1 h.1 h.2) hh.nm) ?_
  rintro De σ H ⟨N, env, Dd, f, hT, ok⟩
  have g := f.n.gr
  refine ⟨{ F with ex := fun x env' => wDs F.ex Dd cs x env', N1 := N, H1 := H }, ⟨⟨rfl, rfl, rfl, rfl, g⟩, ?_⟩, N, env, Dd, f.rebase _, hT, ok.rebase g⟩
  intro N' σ' H' env' y cls od f' xr hx
  exact hh.wish hK wo (f'.back g) xr (ok.of f'.n.gr) hx
/-! ### in a suite: e.f -/
def dXf (a : Addr) (y : DX) (i : Nat) (f : Str) : TDE := fun _ env Q => env[i]? = some (.raw (.ref a)) ∧ match y.fs.lookup f with
  | some d => Q d
  | none => False
theorem zip_lookup {K : PySem.W.Frag} {Z : Zn} {N : Addr → Prop} {H : Hp} {f : Str} {d : D} : ∀ {fs : List (Str × D)} {vs : List V}, Reps K Z N H (fs.map (·.2)) vs → fs.lookup f = some d → ∃ v, ((fs.map (·.1)).zip vs).lookup f = some v ∧ Rep K Z N H d v
  | [], _, _, e => by cases e
  | (g, x) :: fs, _, ⟨v, r, rfl, h1, h2⟩, e => by
    rw [List.lookup_cons] at e
    rw [List.map_cons, List.zip_cons_cons, List.lookup_cons]
    cases q : (f == g) with
    | true =>
      rw [q] at e
      cases e
      exact ⟨v, rfl, h1⟩
    | false =>
      rw [q] at e
      exact zip_lookup h2 e
theorem xr_at {F : FP} {N : Addr → Prop} {σ : L2.St} {H : Hp} {env : SE} {y : DX} {cls : Value} {d : Option Addr} (f : FOk F N σ H env) (xr : XRep F.K F.Z F.N1 F.H1 y cls d) : XRep F.K F.Z N H y cls d := by
  obtain ⟨h1, h2 | ⟨dd, vs, e, n, h3, h4⟩⟩ := xr
  · exact ⟨h1, .inl h2⟩
  · obtain ⟨h5, n5⟩ := f.n.gr dd _ n kp_xd h3
    exact ⟨h1, .inr ⟨dd, vs, e, n5, h5, Reps.mono f.n.gr _ _ h4⟩⟩
variable {a : Addr} {oe : Obj} {cls : Value} {d : Option Addr} {pn : List (Addr × Obj)} {y : DX} {i : Nat} {x : Str} {p pos : Pos} {F' : FP} {c : Cl}
theorem d_xf {fl : Str} (hK : F.K = X.K) (S : SuiteF F c cls d y F') (hz : Zc cls d oe) (hv : ∃ vs, oe.data = .fields vs) (hX : ∃ C, clsAt X.K y.cls = .ref C ∧ XfC X.K C ∧ PySem.W.findIn X.K (.ref C) fl = some none) (he : PE (X.suite a ((a, oe) :: pn)) (.Name x p) (tVar i))
    (hb : attributeBase (.Name x p) fl X.env (eval (.Name x p) X.env) = eval (.Name x p) X.env := by rfl) : PE (X.suite a ((a, oe) :: pn)) (.Attribute (.Name x p) fl pos) (tD F' (dXf a y i fl)) := by
  obtain ⟨C, hC, T, hno⟩ := hX
  refine PE.imp (pe_xf T hno hz hv he hb) ?_
  rintro σ H Q ⟨N, env, Qd, f, ⟨h1, h2⟩, k⟩
  have e := f.slot i _ h1
  obtain ⟨q1, q2⟩ := xr_at f S.xr
  have hc : cls = .ref C := by rw [q1, S.k, hK]; exact hC
  refine ⟨.ref a, e, rfl, hc, ?_⟩
  split at h2
  · rename_i dv hl
    rcases q2 with ⟨q3, _⟩ | ⟨dd, vs, e1, n, h3, h4⟩
    · rw [q3] at hl
      cases hl
    · obtain ⟨v, l1, l2⟩ := zip_lookup h4 hl
      exact ⟨dd, _, v, e1, h3, l1, k v H dv Ext.refl l2 h2⟩
  · exact h2.elim
/-! ### isinstance(e, C) -/
structure ExIs (K : PySem.W.Frag) (C : Addr) : Prop where
  xf : XfC K C
  hcl : (PySem.W.clsIn K C).isSome = true
  ha : PySem.W.findIn K (.ref C) "__class__" = some (some (.builtin "object.__class__"))
  hn : PySem.W.specialIn K (.builtin "object.__class__") "__get__" = some (some (.builtin "getset_descriptor.__get__"))
  ht : PySem.W.takesIn K (.builtin "object.__class__") = some true
  hm : PySem.W.mroIn K C (.type "object") = some true
def dIsX (a : Addr) (y : DX) (i : Nat) (tb : Str → Option Bool) : TDE := fun _ env Q => env[i]? = some (.raw (.ref a)) ∧ match tb y.cls with
  | some b => Q (.bl b)
  | none => False
def rIsX (K : PySem.W.Frag) (D a : Addr) (d : Option Addr) : List V → Hp → VK → Prop := fun xs H Q => (∀ dd, d = some dd → ∃ fs, H dd = some (.xd fs)) ∧ ∃ (cv : Addr) (b : Bool), xs = [.ref a, .ref cv] ∧ PySem.W.kitOne K (.ref D) (.ref cv) = some b ∧ Q (.bl b) H
theorem cr_isX {D : Addr} (C : ExIs X.K D) (hz : Zc (.ref D) d oe) (hv : ∃ vs, oe.data = .fields vs) : CallR (X.suite a ((a, oe) :: pn)) (.builtin "isinstance") (rIsX X.K D a d) := by
  intro pins s σ H xs us Q I r h
  obtain ⟨hd, cv, b, rfl, e, q⟩ := h
  obtain ⟨u1, r1, rfl, hu1, r2⟩ : ∃ u1 r1, us = u1 :: r1 ∧ RelV (.ref a) u1 ∧ Vals [.ref cv] r1 := by
    cases r with
    | cons ra rb => exact ⟨_, _, rfl, ra, rb⟩
  obtain ⟨u2, rfl, hu2⟩ := vals1 r2
  obtain rfl : u1 = .ref a := hu1
  obtain rfl : u2 = .ref cv := hu2
  obtain ⟨hget, _⟩ := I.pin (a, oe) (List.mem_append.mpr (.inl List.mem_cons_self))
  obtain ⟨vs, hdat⟩ := hv
  obtain ⟨od, J⟩ : ∃ od, PySem.W.InstAt s.heap a oe D od := by
    have nc : PySem.W.notCls oe = true := by
      unfold PySem.W.notCls
      rw [hdat] <;> rfl
    cases d with
    | none => exact ⟨none, hget, hz.1, nc, by rw [hz.2]; trivial⟩
    | some dd =>
      obtain ⟨fs, hx⟩ := hd dd rfl
      obtain ⟨mA, ⟨o, es, ep, ho, hr⟩, _⟩ : ObjOk X.prog X.w H s.heap dd (.xd fs) := I.hok dd _ hx
      exact ⟨some o, hget, hz.1, nc, by rw [hz.2]; exact ho⟩
  exact PySem.W.kia_one (PySem.W.kitx_exc C.hcl C.xf.ga C.xf.gg C.xf.exC C.ha C.hn C.ht C.hm) I.kIn J e (fun z => nomatch z) fun tk => ⟨.bl b, H, I.kept (t' := tk) fun _ _ z => z, rfl, q⟩
theorem d_isX {C2 : Addr} {m : Str} {p1 p2 : Pos} {tb : Str → Option Bool} (hK : F.K = X.K) (S : SuiteF F c cls d y F') (hz : Zc cls d oe) (hv : ∃ vs, oe.data = .fields vs) (hX : ∃ C, clsAt X.K y.cls = .ref C ∧ ExIs X.K C) (he : PE (X.suite a ((a, oe) :: pn)) (.Name x p) (tVar i))
    (ht : ∀ b, tb y.cls = some b → PySem.W.kitOne X.K (clsAt X.K y.cls) (.ref C2) = some b) (hg : Gl X "isinstance") (hm : X.mg "isinstance" = none) (hg2 : Gl X m) (hm2 : X.mg m = some (.ref C2)) (hd2 : (m == ("__debug__" : Str)) = false := by decide)
    (hs1 : starEach [.Name x p, .Name m p2] X.env = (false, eval (.Name x p) X.env) :: starEach [.Name m p2] X.env := by rfl) (hs2 : starEach [.Name m p2] X.env = (false, eval (.Name m p2) X.env) :: starEach [] X.env := by rfl) (hpl : (backTo pos (starEach [.Name m p2] X.env)).any (·.1) = false := by rfl) :
    PE (X.suite a ((a, oe) :: pn)) (.Call (.Name "isinstance" p1) [.Name x p, .Name m p2] [] pos) (tD F' (dIsX a y i tb)) := by
  obtain ⟨C, hC, T⟩ := hX
  have hc : cls = .ref C := by
    rw [S.xr.1, S.k, hK]
    exact hC
  subst hc
  refine PE.imp (pe_callB (cr_isX T hz hv) hg hm (by decide +kernel) (pa_cons he (pa_cons (pe_glob (v := .ref C2) hg2 hm2 rfl hd2) pa_nil hs2) hs1) (by decide) (by decide) hs1 hpl) ?_
  rintro σ H Q ⟨N, env, Qd, f, ⟨h1, h2⟩, k⟩
  have e := f.slot i _ h1
  obtain ⟨q1, q2⟩ := xr_at f S.xr
  split at h2
  · rename_i b hb
    refine ⟨.ref a, e, ?_, C2, b, rfl, by rw [← hC]; exact ht b hb, k _ H _ Ext.refl rep_bl h2⟩
    intro dd e1
    rcases q2 with ⟨_, q3⟩ | ⟨d2, vs, e2, n, h3, h4⟩
    · rw [q3] at e1
      cases e1
    · rw [e2] at e1
      cases e1
      exact ⟨_, h3⟩
  · exact h2.elim
end
end DL
set_option Elab.async false
set_option linter.all false
set_option maxRecDepth 100000
set_option maxHeartbeats 2000000
/-! slices, in, ^, chains, sum, tuple(..), list(..), str(..), min, max over data -/
namespace DL
open PySem PySem.Spec L2
open PyProof.Rows hiding St
section
variable {X : Cx} {F : FP} {a b c e : Expr} {es : List Expr} {pos p : Pos} {Ta Tb Tc : TDE} {Tas : TDA}
/-! ### slices -/
def cutD {α : Type} (xs : List α) (lo hi : Option Int) : List α := (xs.drop (HT.sIx xs.length 0 lo)).take (HT.sIx xs.length xs.length hi - HT.sIx xs.length 0 lo)
abbrev TDO := XW → SE → (Option Int → Prop) → Prop
def dNoPart : TDO := fun _ _ Q => Q none
def dPart (T : TDE) : TDO := fun ξ env Q => T ξ env fun d => match d with
  | .int i => Q (some i)
  | _ => False
def tDO (F : FP) (T : TDO) : TO := fun σ H Q => ∃ N env Qd, FOk F N σ H env ∧ T F.ex env Qd ∧ ∀ o H', Ext F.Z H H' → Qd o → Q o H'
theorem PO.imp {lo : Option Expr} {t t' : TO} (h : PO X lo t) (hi : ∀ σ H Q, t' σ H Q → t σ H Q) : PO X lo t' := ⟨fun pins s σ H Q I hw => h.run pins s σ H Q I (hi _ _ _ hw)⟩
theorem do_none : PO X none (tDO F dNoPart) := PO.imp po_none (by
  rintro σ H Q ⟨N, env, Qd, f, hT, k⟩
  exact k none H Ext.refl hT)
theorem do_some (h : PE X e (tD F Ta)) : PO X (some e) (tDO F (dPart Ta)) := PO.imp (po_some h) (by
  rintro σ H Q ⟨N, env, Qd, f, hT, k⟩
  refine ⟨N, env, _, f, hT, fun v H1 d e1 r q => ?_⟩
  cases d <;> first | exact q.elim | exact ⟨_, r, k _ _ e1 q⟩)
def gSl (x : D) (lo hi : Option Int) (Q : D → Prop) : Prop := match x with
  | .tup ds => Q (.tup (cutD ds lo hi))
  | .lst ds => Q (.lst (cutD ds lo hi))
  | _ => False
def dSl (T : TDE) (l h : TDO) : TDE := fun ξ env Q => T ξ env fun x => l ξ env fun lo => h ξ env fun hi => gSl x lo hi Q
theorem Reps.cut {K : PySem.W.Frag} {Z : Zn} {N : Addr → Prop} {H : Hp} {ds : List D} {vs : List V} (r : Reps K Z N H ds vs) (lo hi : Option Int) : Reps K Z N H (cutD ds lo hi) (cutV vs lo hi) := by
  unfold cutD cutV
  rw [r.length]
  exact (r.drop _).take _
theorem cut_whole {α : Type} {xs : List α} {lo hi : Option Int} (h : HT.sIx xs.length 0 lo = 0 ∧ HT.sIx xs.length xs.length hi = xs.length) : cutD xs lo hi = xs := by
  unfold cutD
  rw [h.1, h.2]
  simp
theorem d_slice {lo hi : Option Expr} {p2 : Pos} {l h : TDO} (hK : F.K = X.K) (he : PE X e (tD F Ta)) (hl : PO X lo (tDO F l)) (hu : PO X hi (tDO F h)) : PE X (.Subscript e (.Slice lo hi none p2) pos) (tD F (dSl Ta l h)) := PE.imp (pe_slice (SlR.or sl_tupA sl_list) he hl hu) (by
  rintro σ H Q ⟨N, env, Qd, f, hT, k⟩
  refine ⟨N, env, _, f, hT, fun x H1 d e1 r1 q1 => ⟨N, env, _, f.ext' e1, q1, fun lo H2 e2 q2 => ⟨N, env, _, (f.ext' e1).ext' e2, q2, fun hi H3 e3 q3 => ?_⟩⟩⟩
  have f3 := ((f.ext' e1).ext' e2).ext' e3
  have r3 := r1.ext (e2.trans e3) f.n.z
  have e := (e1.trans e2).trans e3
  cases d <;> first | exact q3.elim | skip
  · rename_i ds
    have r4 := r3
    obtain ⟨a, vs, rfl, ra, rs⟩ := r3
    refine .inl ⟨a, vs, rfl, by rw [← hK]; exact sqt_of ra, fun hw => ?_, fun hw p hp => ?_⟩
    · refine k _ H3 _ e r4 ?_
      rw [← rs.length] at hw
      rw [show gSl (.tup ds) lo hi Qd = Qd (.tup (cutD ds lo hi)) from rfl, cut_whole hw] at q3
      exact q3
    · exact k _ _ _ (e.trans (f3.n.lay hp)) (rep_newT f3.n hp (rs.cut lo hi)) q3
  · rename_i ds
    obtain ⟨a, vs, rfl, na, ra, rs⟩ := r3
    exact .inr ⟨a, vs, rfl, SqL.of ra, fun p hp => k _ _ _ (e.trans (f3.n.lay hp)) (rep_newL f3.n hp (rs.cut lo hi)) q3⟩)
/-! ### in -/
def vOf : D → Option V
  | .non => some .non
  | .bl b => some (.bl b)
  | .int i => some (.int i)
  | .str x => some (.str x)
  | _ => none
theorem vOf_rep {K : PySem.W.Frag} {Z : Zn} {N : Addr → Prop} {H : Hp} {d : D} {v w : V} (h : vOf d = some w) (r : Rep K Z N H d v) : v = w ∧ flatV w = true := by
  cases d <;> first | (cases h; done) | skip
  all_goals
    cases h
    exact ⟨r, rfl⟩
theorem vOfs_reps {K : PySem.W.Frag} {Z : Zn} {N : Addr → Prop} {H : Hp} : ∀ {ds : List D} {vs ws : List V}, ds.mapM vOf = some ws → Reps K Z N H ds vs → vs = ws ∧ ws.all flatV = true
  | [], _, _, h, r => by
    cases h
    cases r
    exact ⟨rfl, rfl⟩
  | d :: ds, _, _, h, ⟨v, r, rfl, h1, h2⟩ => by
    rw [List.mapM_cons] at h
    cases q : vOf d with
    | none => rw [q] at h; cases h
    | some w =>
      cases q2 : ds.mapM vOf with
      | none => rw [q, q2] at h; cases h
      | some ws =>
        rw [q, q2] at h
        cases h
        obtain ⟨rfl, f1⟩ := vOf_rep q h1
        obtain ⟨rfl, f2⟩ := vOfs_reps q2 h2
        exact ⟨rfl, by rw [List.all_cons, f1, f2]; rfl⟩
def seqOf : D → Option (List D)
  | .tup ds => some ds
  | .lst ds => some ds
  | _ => none
def gIn (neg : Bool) : G2 := fun x y Q => match vOf x, (seqOf y).bind (·.mapM vOf) with
  | some v, some vs => Q (.bl (if neg then !inV v vs else inV v vs))
  | _, _ => False
theorem opd_in (neg : Bool) : OpD F (rIn F.K neg) (gIn neg) := ⟨by
  intro N H x y dx dy Qd Q n rx ry h k
  unfold gIn at h
  split at h
  · rename_i v vs h1 h2
    obtain ⟨rfl, f1⟩ := vOf_rep h1 rx
    cases dy <;> first | (cases h2; done) | skip
    · rename_i ds
      obtain ⟨a, ws, rfl, ra, rs⟩ := ry
      obtain ⟨rfl, f2⟩ := vOfs_reps (show ds.mapM vOf = some vs from h2) rs
      exact ⟨a, _, rfl, .inr (sqt_of ra), f1, f2, k _ _ _ Ext.refl rep_bl h⟩
    · rename_i ds
      obtain ⟨a, ws, rfl, na, ra, rs⟩ := ry
      obtain ⟨rfl, f2⟩ := vOfs_reps (show ds.mapM vOf = some vs from h2) rs
      exact ⟨a, _, rfl, .inl (SqL.of ra), f1, f2, k _ _ _ Ext.refl rep_bl h⟩
  · exact h.elim⟩
theorem d_in (hK : F.K = X.K) (ha : PE X a (tD F Ta)) (hb : PE X b (tD F Tb)) (hm : behindInMarks .In b = false := by rfl) : PE X (.Compare a [.In] [b] pos) (tD F (dBin (gIn false) Ta Tb)) := by
  have o := opd_in (F := F) false
  rw [hK] at o
  exact d_cmp op_in_seq o ha hb hm
theorem dt_in (hK : F.K = X.K) (ha : PE X a (tD F Ta)) (hb : PE X b (tD F Tb)) (hm : behindInMarks .In b = false := by rfl) : PT X (.Compare a [.In] [b] pos) (tDT F (dTest (dBin (gIn false) Ta Tb))) := by
  have o := opd_in (F := F) false
  rw [hK] at o
  exact dt_cmp op_in_seq o ha hb hm
theorem d_nin (hK : F.K = X.K) (ha : PE X a (tD F Ta)) (hb : PE X b (tD F Tb)) (hm : behindInMarks .NotIn b = false := by rfl) : PE X (.Compare a [.NotIn] [b] pos) (tD F (dBin (gIn true) Ta Tb)) := by
  have o := opd_in (F := F) true
  rw [hK] at o
  exact d_cmp op_notIn_seq o ha hb hm
theorem dt_nin (hK : F.K = X.K) (ha : PE X a (tD F Ta)) (hb : PE X b (tD F Tb)) (hm : behindInMarks .NotIn b = false := by rfl) : PT X (.Compare a [.NotIn] [b] pos) (tDT F (dTest (dBin (gIn true) Ta Tb))) := by
  have o := opd_in (F := F) true
  rw [hK] at o
  exact dt_cmp op_notIn_seq o ha hb hm
/-! ### ^ -/
abbrev gXor : G2 := gI0 fun i j => .int (Builtin.bitXor i j)
theorem d_xor (ha : PE X a (tD F Ta)) (hb : PE X b (tD F Tb)) : PE X (.BinOp a .BitXor b pos) (tD F (dBin gXor Ta Tb)) := d_op op_xor (opd_I0 fun _ _ _ _ => rfl) ha hb
abbrev gModN : G2 := gI (fun _ j => j ≠ 0) fun i j => .int (i.fmod j)
theorem d_modN (ha : PE X a (tD F Ta)) (hb : PE X b (tD F Tb)) : PE X (.BinOp a .Mod b pos) (tD F (dBin gModN Ta Tb)) := d_op op_modN (opd_I fun _ _ _ _ => rfl) ha hb
/-! ### a < b < c -/
def dChain (g g' : G2) (Ta Tb Tc : TDE) : TDE := fun ξ env Q => Ta ξ env fun x => Tb ξ env fun y => g x y fun z => match z with
  | .bl true => Tc ξ env fun w => g' y w Q
  | .bl false => Q (.bl false)
  | _ => False
theorem chain_imp {r r' : R2} {g g' : G2} (hg : OpD F r g) (hg' : OpD F r' g') : ∀ σ H Q, tD F (dChain g g' Ta Tb Tc) σ H Q → tChain r r' (tD F Ta) (tD F Tb) (tD F Tc) σ H Q := by
  rintro σ H Q ⟨N, env, Qd, f, hT, k⟩
  refine ⟨N, env, _, f, hT, fun x H1 dx e1 rx q1 => ⟨N, env, _, f.ext' e1, q1, fun y H2 dy e2 ry q2 => ?_⟩⟩
  have f2 := (f.ext' e1).ext' e2
  refine hg.ok N H2 x y dx dy _ _ f2.n (rx.ext e2 f.n.z) ry q2 fun v H3 d e3 r3 q3 => ?_
  have f3 := f2.ext' e3
  have e := (e1.trans e2).trans e3
  split at q3
  · refine ⟨true, r3, ?_⟩
    rw [if_pos rfl]
    exact ⟨N, env, _, f3, q3, fun w H4 dw e4 rw' q4 => hg'.ok N H4 y w dy dw _ _ (f3.ext' e4).n (ry.ext (e3.trans e4) f.n.z) rw' q4 fun v H5 d5 e5 r5 q5 => k v H5 d5 ((e.trans e4).trans e5) r5 q5⟩
  · refine ⟨false, r3, ?_⟩
    rw [if_neg Bool.false_ne_true]
    exact k _ _ _ e rep_bl q3
  · exact q3.elim
theorem d_chain {op op' : CmpOp} {r r' : R2} {g g' : G2} (ho : OpR X (compareOp op) r) (ho' : OpR X (compareOp op') r') (hg : OpD F r g) (hg' : OpD F r' g') (ha : PE X a (tD F Ta)) (hb : PE X b (tD F Tb)) (hc : PE X c (tD F Tc))
    (hm : lastMarks [op, op'] [b, c] = false := by with_unfolding_all rfl) : PE X (.Compare a [op, op'] [b, c] pos) (tD F (dChain g g' Ta Tb Tc)) := PE.imp (pe_chain ho ho' ha hb hc hm) (chain_imp hg hg')
theorem dt_chain {op op' : CmpOp} {r r' : R2} {g g' : G2} (ho : OpR X (compareOp op) r) (ho' : OpR X (compareOp op') r') (hg : OpD F r g) (hg' : OpD F r' g') (ha : PE X a (tD F Ta)) (hb : PE X b (tD F Tb)) (hc : PE X c (tD F Tc))
    (hm : lastMarks [op, op'] [b, c] = false := by with_unfolding_all rfl) : PT X (.Compare a [op, op'] [b, c] pos) (tDT F (dTest (dChain g g' Ta Tb Tc))) := PT.imp (pt_chain ho ho' ha hb hc hm) (tTest_imp (chain_imp hg hg'))
theorem od_lt : OpD F (rI0 fun i j => .bl (decide (i < j))) gLt := opd_I0 fun _ _ _ _ => rfl
theorem od_le : OpD F (rI0 fun i j => .bl (decide (i ≤ j))) gLe := opd_I0 fun _ _ _ _ => rfl
/-! ### sum -/
def intsOf : List D → Option (List Int)
  | [] => some []
  | .int i :: ds => (intsOf ds).map (i :: ·)
  | _ :: _ => none
theorem intsOf_eq : ∀ {ds : List D} {ns : List Int}, intsOf ds = some ns → ds = ns.map D.int
  | [], ns, h => by simp [intsOf] at h; subst h; rfl
  | d :: ds, ns, h => by
    cases d <;> first | (simp [intsOf] at h; done) | skip
    rename_i i
    simp only [intsOf, Option.map_eq_some_iff] at h
    obtain ⟨r, h1, h2⟩ := h
    rw [← h2, intsOf_eq h1]; rfl
theorem intsOf_map (ns : List Int) : intsOf (ns.map D.int) = some ns := by
  induction ns with
  | nil => rfl
  | cons n ns ih => rw [List.map_cons, intsOf, ih]; rfl
def gSum : GA := fun xs Q => match xs with
  | [x] => match (seqOf x).bind intsOf with
    | some ns => Q (.int ns.sum)
    | none => False
  | _ => False
def rSumA (K : PySem.W.Frag) : List V → Hp → VK → Prop := fun vs H Q => ∃ (a : Addr) (ns : List Int), vs = [V.ref a] ∧ (SqL K H a (ns.map V.int) ∨ SqT K H a (ns.map V.int)) ∧ Q (.int ns.sum) H
theorem cr_sumA (hc : X.calm = true) : CallR X (.builtin "sum") (rSumA X.K) := by
  intro pins s σ H vs us Q I r h
  obtain ⟨a, ns, rfl, hs | ht, q⟩ := h
  · exact cr_sum hc pins s σ H _ us Q I r ⟨a, ns, rfl, hs, q⟩
  · obtain ⟨its, rv, hl, _⟩ := I.tuple ht
    rw [Vals.ref1 r]
    obtain ⟨xs, e⟩ := rv.ints.allInts.items
    have hn : numsOf (intItems xs).toList = ns := by rw [← e]; exact rv.ints.numsOf
    rw [nums_intItems] at hn
    rw [e] at hl
    have ht2 : s.heap.IsTuple a (intItems xs) := let ⟨o, ho, hc, n, hd⟩ := hl; ⟨o, ho, hc, n, hd⟩
    refine PySem.W.ktm_sumG (I.ok.hd hc) ht2 fun h' tk t' hk => ⟨.int ns.sum, H, I.kept hk, ⟨t', ?_⟩, q⟩
    rw [preSum_eq, List.take_of_length_le (by simp), hn]
theorem cd_sum : CallD F (rSumA F.K) gSum := ⟨by
  intro N H vs ds Qd Q n r h k
  unfold gSum at h
  split at h
  · rename_i x
    split at h
    · rename_i ns hb
      obtain ⟨v, r, rfl, h1, h2⟩ := r
      cases h2
      cases x <;> first | (cases hb; done) | skip
      · rename_i ds
        obtain ⟨a, vs, rfl, ra, rs⟩ := h1
        rw [intsOf_eq (show intsOf ds = some ns from hb)] at rs
        rw [rs.ints] at ra
        exact ⟨a, ns, rfl, .inr (sqt_of ra), k _ _ _ Ext.refl rep_int h⟩
      · rename_i ds
        obtain ⟨a, vs, rfl, na, ra, rs⟩ := h1
        rw [intsOf_eq (show intsOf ds = some ns from hb)] at rs
        rw [rs.ints] at ra
        exact ⟨a, ns, rfl, .inl (SqL.of ra), k _ _ _ Ext.refl rep_int h⟩
    · exact h.elim
  · exact h.elim⟩
/-! ### tuple(x), list(x), str(i), min, max -/
def gTuple : GA := fun xs Q => match xs with
  | [.lst ds] => Q (.tup ds)
  | [.tup ds] => Q (.tup ds)
  | _ => False
theorem cd_tuple : CallD F (fun xs H Q => ∃ p ys, xs = [.ref p] ∧ ((SqL F.K H p ys ∧ ∀ l, H l = none → Q (.ref l) (upd H l (.tup ys))) ∨ (SqT F.K H p ys ∧ Q (.ref p) H))) gTuple := ⟨by
  intro N H vs ds Qd Q n r h k
  unfold gTuple at h
  split at h
  · obtain ⟨v, r, rfl, h1, h2⟩ := r
    cases h2
    obtain ⟨a, vs, rfl, na, ra, rs⟩ := h1
    exact ⟨a, vs, rfl, .inl ⟨SqL.of ra, fun p hp => k _ _ _ (n.lay hp) (rep_newT n hp rs) h⟩⟩
  · obtain ⟨v, r, rfl, h1, h2⟩ := r
    cases h2
    have h3 := h1
    obtain ⟨a, vs, rfl, ra, rs⟩ := h1
    exact ⟨a, vs, rfl, .inr ⟨sqt_of ra, k _ _ _ Ext.refl h3 h⟩⟩
  · exact h.elim⟩
def gList : GA := fun xs Q => match xs with
  | [.lst ds] => Q (.lst ds)
  | [.tup ds] => Q (.lst ds)
  | _ => False
theorem cd_list : CallD F (fun xs H Q => ∃ p ys, xs = [.ref p] ∧ (SqL F.K H p ys ∨ SqT F.K H p ys) ∧ ∀ l, H l = none → Q (.ref l) (upd H l (.lst ys))) gList := ⟨by
  intro N H vs ds Qd Q n r h k
  unfold gList at h
  split at h
  · obtain ⟨v, r, rfl, h1, h2⟩ := r
    cases h2
    obtain ⟨a, vs, rfl, na, ra, rs⟩ := h1
    exact ⟨a, vs, rfl, .inl (SqL.of ra), fun p hp => k _ _ _ (n.lay hp) (rep_newL n hp rs) h⟩
  · obtain ⟨v, r, rfl, h1, h2⟩ := r
    cases h2
    obtain ⟨a, vs, rfl, ra, rs⟩ := h1
    exact ⟨a, vs, rfl, .inr (sqt_of ra), fun p hp => k _ _ _ (n.lay hp) (rep_newL n hp rs) h⟩
  · exact h.elim⟩
def gStr : GA := fun xs Q => match xs with
  | [.int i] => i.natAbs.log2 < 1920 ∧ Q (.str (toString i))
  | _ => False
theorem cd_str : CallD F (fun xs H Q => ∃ i : Int, xs = [.int i] ∧ i.natAbs.log2 < 1920 ∧ Q (.str (toString i)) H) gStr := ⟨by
  intro N H vs ds Qd Q n r h k
  unfold gStr at h
  split at h
  · obtain ⟨v, r, rfl, h1, h2⟩ := r
    cases h2
    exact ⟨_, by rw [show v = _ from h1], h.1, k _ _ _ Ext.refl rep_str h.2⟩
  · exact h.elim⟩
def gMax2 : GA := fun xs Q => match xs with
  | [.int i, .int j] => Q (.int (if j > i then j else i))
  | _ => False
def gMin2 : GA := fun xs Q => match xs with
  | [.int i, .int j] => Q (.int (if j < i then j else i))
  | _ => False
theorem cd_max2 : CallD F (fun xs H Q => ∃ i j, xs = [.int i, .int j] ∧ Q (.int (if j > i then j else i)) H) gMax2 := ⟨by
  intro N H vs ds Qd Q n r h k
  unfold gMax2 at h
  split at h
  · obtain ⟨v, _, rfl, h1, w, _, rfl, h2, h3⟩ := r
    cases h3
    exact ⟨_, _, by rw [show v = _ from h1, show w = _ from h2], k _ _ _ Ext.refl rep_int h⟩
  · exact h.elim⟩
theorem cd_min2 : CallD F (fun xs H Q => ∃ i j, xs = [.int i, .int j] ∧ Q (.int (if j < i then j else i)) H) gMin2 := ⟨by
  intro N H vs ds Qd Q n r h k
  unfold gMin2 at h
  split at h
  · obtain ⟨v, _, rfl, h1, w, _, rfl, h2, h3⟩ := r
    cases h3
    exact ⟨_, _, by rw [show v = _ from h1, show w = _ from h2], k _ _ _ Ext.refl rep_int h⟩
  · exact h.elim⟩
end
end DL
set_option Elab.async false
set_option linter.all false
set_option maxRecDepth 100000
set_option maxHeartbeats 2000000
/-! lists of the def's own: made, appended to, stored to, read, let go as data -/
namespace DL
open PySem PySem.Spec L2
open PyProof.Rows hiding St
/-- a new list at p -/
structure NewL (F : FP) (N : Addr → Prop) (σ : L2.St) (H : Hp) (env : SE) (p : Addr) (vs : List V) (H' : Hp) (ds : List D) : Prop where
  ext : Ext F.Z H H'
  f : FOk F (fun q => N q ∨ q = p) σ H' env
  at_ : H' p = some (.lst vs)
  nb : ¬ F.B p
  rs : Reps F.K F.Z (fun q => N q ∨ q = p) H' ds vs
  ap : ∀ (j : Nat) xs, env[j]? = some (.own xs) → σ[j]? = some (some (.ref p)) → False
  fr : ∀ o, Kp o → H p = some o → False
theorem NOk.fr {F : FP} {N : Addr → Prop} {H H1 : Hp} {p : Addr} (n : NOk F N H) (e : Ext F.Z H H1) (hp : H1 p = none) : ∀ o, Kp o → H p = some o → False := fun o k h => by
  have np := (n.ext' e).fresh hp
  rw [e.keep p o (fun z => np (n.z p z)) k h] at hp
  cases hp
theorem FOk.ap {F : FP} {N : Addr → Prop} {σ : L2.St} {H : Hp} {env : SE} (f : FOk F N σ H env) {p : Addr} (np : ¬ N p) : ∀ (j : Nat) xs, env[j]? = some (.own xs) → σ[j]? = some (some (.ref p)) → False := fun j xs h e => by
  obtain ⟨q, vs, h1, h2, _⟩ := f.slot j _ h
  rw [h1] at e
  cases e
  exact np h2
abbrev TDL := XW → SE → (List D → Prop) → Prop
def tDL (F : FP) (T : TDL) : TE := fun σ H Q => ∃ N env Qd, FOk F N σ H env ∧ T F.ex env Qd ∧ ∀ p vs H' ds, NewL F N σ H env p vs H' ds → Qd ds → Q (.ref p) H'
/-- slot i holds the list -/
theorem NewL.own {F : FP} {N : Addr → Prop} {σ : L2.St} {H : Hp} {env : SE} {p : Addr} {vs : List V} {H' : Hp} {ds : List D} (n : NewL F N σ H env p vs H' ds) (i : Nat) : FOk F (fun q => N q ∨ q = p) (σ.set i (some (.ref p))) H' (env.set i (.own ds)) where
  n := n.f.n
  len := by rw [List.length_set, List.length_set]; exact n.f.len
  slot := fun j s h => by
    by_cases hj : i = j
    · subst hj
      have hl : i < env.length := by
        have := (List.getElem?_eq_some_iff.mp h).1
        rwa [List.length_set] at this
      rw [List.getElem?_set_self hl] at h
      cases h
      exact ⟨p, vs, by rw [List.getElem?_set_self (by rw [n.f.len]; exact hl)], .inr rfl, n.nb, n.at_, n.rs⟩
    · rw [List.getElem?_set_ne hj] at h
      rw [List.getElem?_set_ne hj]
      exact n.f.slot j s h
  apart := fun j k q xs ys hjk h1 h2 h3 h4 => by
    have o : ∀ {j : Nat} {xs : List D}, (env.set i (.own ds))[j]? = some (.own xs) → i ≠ j → env[j]? = some (.own xs) := fun {j xs} h hj => by
      rw [List.getElem?_set_ne hj] at h
      exact h
    have at_i : ∀ {r : Addr}, (σ.set i (some (.ref p)))[i]? = some (some (.ref r)) → r = p := fun {r} h => by
      have hl : i < σ.length := by
        have := (List.getElem?_eq_some_iff.mp h).1
        rwa [List.length_set] at this
      rw [List.getElem?_set_self hl] at h
      cases h
      rfl
    by_cases hj : i = j
    · subst hj
      have e := at_i h3
      subst e
      rw [List.getElem?_set_ne hjk] at h4
      exact n.ap k ys (o h2 hjk) h4
    · by_cases hk : i = k
      · subst hk
        have e := at_i h4
        subst e
        rw [List.getElem?_set_ne hj] at h3
        exact n.ap j xs (o h1 hj) h3
      · rw [List.getElem?_set_ne hj] at h3
        rw [List.getElem?_set_ne hk] at h4
        exact n.f.apart j k q xs ys hjk (o h1 hj) (o h2 hk) h3 h4
theorem NewL.evo {F : FP} {N : Addr → Prop} {σ : L2.St} {H : Hp} {env : SE} {p : Addr} {vs : List V} {H' : Hp} {ds : List D} (n : NewL F N σ H env p vs H' ds) (nk : NOk F N H) : Evo N H (fun q => N q ∨ q = p) H' := fun q o nq k e =>
  ⟨n.ext.keep q o (fun z => nq (nk.z q z)) k e, fun z => z.elim nq fun y => n.fr o k (by rw [← y]; exact e)⟩
section
variable {X : Cx} {F : FP} {a b c e : Expr} {es : List Expr} {pos p p1 p2 : Pos} {Ta Tb Tc : TDE} {Tas : TDA} {Tl : TDL} {tt : TDT} {te : TDE}
/-! ### new lists -/
def lLst (T : TDA) : TDL := fun ξ env Q => T ξ env fun ds => ds.length ≤ sizeLine ∧ Q ds
theorem newL_lay {N : Addr → Prop} {σ : L2.St} {H H1 : Hp} {env : SE} {p : Addr} {vs : List V} {ds : List D} (f : FOk F N σ H env) (e : Ext F.Z H H1) (hp : H1 p = none) (r : Reps F.K F.Z N H1 ds vs) : NewL F N σ H env p vs (upd H1 p (.lst vs)) ds := by
  have f1 := f.ext' e
  refine ⟨e.trans (f1.n.lay hp), f1.with kp_lst hp (f1.nb hp), upd_same, f1.nb hp, ?_, f.ap (f1.n.fresh hp), f.n.fr e hp⟩
  exact Reps.mono (fun q o n k h => by
    have ne := ne_of_none h hp
    exact ⟨by rw [upd_ne ne]; exact h, fun z => z.elim n ne⟩) _ _ r
theorem l_lst (h : PA X es (tDA F Tas)) : PE X (.List es pos) (tDL F (lLst Tas)) := PE.imp (pe_lst h) (by
  rintro σ H Q ⟨N, env, Qd, f, hT, k⟩
  refine ⟨N, env, _, f, hT, fun vs H1 ds e1 r1 q1 => ⟨by rw [← r1.length]; exact q1.1, fun p hp => k p vs _ ds (newL_lay f e1 hp r1) q1.2⟩⟩)
theorem lc_endL {N : Addr → Prop} {σ : L2.St} {H0 H1 H' : Hp} {env : SE} {A : Addr} {all : List D} {Ql : List D → Prop} {j : Nat} (f : FOk F N σ H1 env) (hA : H1 A = none) {G : TDG} {Q : VK} (f0 : FOk F N σ H0 env) (e : Ext F.Z H0 H1)
    (k : ∀ p vs H' ds, NewL F N σ H0 env p vs H' ds → Ql ds → Q (.ref p) H') {n : Nat} (hn : all.length = n) (L : LcAt F N H1 A G tt te (wipeD env [j]) all (fun d => match d with | .lst ds => Ql ds | _ => False) n H') : Q (.ref A) H' := by
  obtain ⟨ext, acc, ds, h1, h2, h3, h4⟩ := L
  rw [← hn, List.drop_length] at h4
  have h4 : Ql (ds ++ []) := h4
  rw [List.append_nil] at h4
  exact k A acc H' ds ⟨e.trans ext, f.with' kp_lst hA ext h1, h1, f.nb hA, h3, f.ap (f.n.fresh hA), f0.n.fr e hA⟩ h4
def lLcR (T : TDA) (j : Nat) (tt : TDT) (te : TDE) : TDL := fun ξ env Q => T ξ env fun ds => match ds with
  | [.int n] => (0 ≤ n ∧ n ≤ sizeLine) ∧ lcD (dgName j) tt te (wipeD env [j]) (intsD 0 n.toNat) Q
  | _ => False
theorem lcR_impL {j : Nat} : ∀ σ H Q, tDL F (lLcR Tas j tt te) σ H Q → tLc (iRng1 (tDA F Tas)) (gName j) (tDT F.calm tt) (tD F.calm te) [j] σ H Q := by
  rintro σ H Q ⟨N, env, Qd, f, hT, k⟩
  refine ⟨N, env, _, f, hT, fun vs H1 ds e1 r q => ?_⟩
  split at q
  · rename_i n
    obtain ⟨v, _, rfl, r1, r2⟩ := r
    cases r2
    have f1 := f.ext' e1
    have hs : (sizeLine : Nat) < 2 ^ 62 := by rw [sizeLine_eq]; decide
    refine ⟨n, by rw [show v = _ from r1], by omega, by omega, fun A hA => ?_⟩
    refine lc_range (lo := 0) (n := n.toNat) (fun i H' => LcAt F N H1 A (dgName j) tt te (wipeD env [j]) (intsD 0 n.toNat) (fun d => match d with | .lst ds => Qd ds | _ => False) i H') (lc_start f1.n hA q.2) (fun i H' hi L => ?_) (fun H' L => lc_endL f1 hA f e1 k ints_len L)
    exact lc_turn f1 hA (by rw [ints_len]; omega) (ints_get hi) rep_int L
  · exact q.elim
def lLc (T : TDE) (j : Nat) (tt : TDT) (te : TDE) : TDL := fun ξ env Q => T ξ env fun d => match d with
  | .lst ds => ds.length ≤ sizeLine ∧ lcD (dgName j) tt te (wipeD env [j]) ds Q
  | _ => False
theorem lc_impL {j : Nat} : ∀ σ H Q, tDL F (lLc Ta j tt te) σ H Q → tLc (iList F.K (tD F Ta)) (gName j) (tDT F.calm tt) (tD F.calm te) [j] σ H Q := by
  rintro σ H Q ⟨N, env, Qd, f, hT, k⟩
  refine ⟨N, env, _, f, hT, fun v H1 d e1 r q => ?_⟩
  cases d <;> first | exact q.elim | skip
  rename_i ds
  obtain ⟨a, vs, rfl, na, ra, rs⟩ := r
  have f1 := f.ext' e1
  refine ⟨a, rfl, ⟨vs, SqL.of ra⟩, fun A hA => ?_⟩
  refine lc_list (K := F.K) (a := a) (xs := vs) (fun i H' => LcAt F N H1 A (dgName j) tt te (wipeD env [j]) ds (fun d => match d with | .lst ds => Qd ds | _ => False) i H') (lc_start f1.n hA q.2) (fun i H' _ L => SqL.of (L.ext.keep a _ (fun z => na (f.n.z a z)) kp_lst ra)) (fun i x H' hx L => ?_) (fun H' L => lc_endL f1 hA f e1 k rs.length L)
  obtain ⟨d, hd, rd⟩ := rs.getV hx
  exact lc_turn f1 hA q.1 hd rd L
variable {elt iter tg : Expr} {ifs : List Expr} {scope : Scope} {own : List (Str × Nat)} {j : Nat} {pos' : Pos}
theorem l_lcR (hK : F.K = X.K) (hc : X.calm = true) (hN : X.N.Nodup) (hgl : Gl X "range") (hm : X.mg "range" = none) (ha : PA X [a] (tDA F Tas)) (ok : BlkOk X.N X.env.scope scope own) (hv : own.map (·.2) = [j])
    (hg : ∀ (s : Shared) (H : Hp) (C : Addr) (cl : List (Str × Addr)) (fp : List Addr), PG (X.blk s H scope (compEnvC scope cl C X.env) fp) tg (gName j)) (ht : ∀ (s : Shared) (H : Hp) (C : Addr) (cl : List (Str × Addr)) (fp : List Addr), PTs (X.blk s H scope (compEnvC scope cl C X.env) fp) ifs (tDT F.calm tt))
    (he : ∀ (s : Shared) (H : Hp) (C : Addr) (cl : List (Str × Addr)) (fp : List Addr), PE (X.blk s H scope (compEnvC scope cl C X.env) fp) elt (tD F.calm te)) (hsa : starEach [a] X.env = [(false, eval a X.env)] := by rfl) (hs : ∀ x, foldedSetIterable (.Call (.Name "range" p) [a] [] pos') X.env x = pure x := by intro _; rfl) :
    PE X (.ListComp elt [⟨tg, .Call (.Name "range" p) [a] [] pos', ifs, 0⟩] scope pos) (tDL F (lLcR Tas j tt te)) := by
  have z := pe_lc (pos := pos) hc hN (pi_range1 hgl hm ha hsa) ok hg ht he hs
  rw [hv] at z
  exact PE.imp z lcR_impL
theorem l_lc (hK : F.K = X.K) (hc : X.calm = true) (hN : X.N.Nodup) (hi : PE X iter (tD F Ta)) (ok : BlkOk X.N X.env.scope scope own) (hv : own.map (·.2) = [j])
    (hg : ∀ (s : Shared) (H : Hp) (C : Addr) (cl : List (Str × Addr)) (fp : List Addr), PG (X.blk s H scope (compEnvC scope cl C X.env) fp) tg (gName j)) (ht : ∀ (s : Shared) (H : Hp) (C : Addr) (cl : List (Str × Addr)) (fp : List Addr), PTs (X.blk s H scope (compEnvC scope cl C X.env) fp) ifs (tDT F.calm tt))
    (he : ∀ (s : Shared) (H : Hp) (C : Addr) (cl : List (Str × Addr)) (fp : List Addr), PE (X.blk s H scope (compEnvC scope cl C X.env) fp) elt (tD F.calm te)) (hs : ∀ x, foldedSetIterable iter X.env x = pure x := by intro _; rfl) :
    PE X (.ListComp elt [⟨tg, iter, ifs, 0⟩] scope pos) (tDL F (lLc Ta j tt te)) := by
  have z := pe_lc (pos := pos) hc hN (pi_list hi) ok hg ht he hs
  rw [hv] at z
  exact PE.imp z (by rw [← hK]; exact lc_impL)
/-- [..] * k -/
def lRep (Ta Tb : TDE) : TDL := fun ξ env Q => Ta ξ env fun x => Tb ξ env fun y => match x, y with
  | .lst xs, .int k => (-(2 ^ 63) ≤ k ∧ k < 2 ^ 63 ∧ xs.length * k.toNat ≤ sizeLine) ∧ Q (List.replicate k.toNat xs).flatten
  | _, _ => False
theorem l_rep (ha : PE X a (tD F Ta)) (hb : PE X b (tD F Tb)) : PE X (.BinOp a .Mult b pos) (tDL F (lRep Ta Tb)) := PE.imp (pe_op op_rep ha hb) (by
  rintro σ H Q ⟨N, env, Qd, f, hT, k⟩
  refine ⟨N, env, _, f, hT, fun x H1 dx e1 rx q1 => ⟨N, env, _, f.ext' e1, q1, fun y H2 dy e2 ry q2 => ?_⟩⟩
  have r3 := rx.ext e2 f.n.z
  split at q2
  · obtain ⟨l, vs, rfl, nl, hl, rl⟩ := r3
    cases (show y = .int _ from ry)
    exact ⟨l, _, vs, rfl, rfl, hl, q2.1.1, q2.1.2.1, by rw [← rl.length]; exact q2.1.2.2, fun p hp => k p _ _ _ (newL_lay f (e1.trans e2) hp (reps_flat rl _)) q2.2⟩
  · exact q2.elim)
/-- a + b, lists -/
def lCat (Ta Tb : TDE) : TDL := fun ξ env Q => Ta ξ env fun x => Tb ξ env fun y => match x, y with
  | .lst xs, .lst ys => xs.length + ys.length ≤ sizeLine ∧ Q (xs ++ ys)
  | _, _ => False
theorem l_cat (ha : PE X a (tD F Ta)) (hb : PE X b (tD F Tb)) : PE X (.BinOp a .Add b pos) (tDL F (lCat Ta Tb)) := PE.imp (pe_op op_cat ha hb) (by
  rintro σ H Q ⟨N, env, Qd, f, hT, k⟩
  refine ⟨N, env, _, f, hT, fun x H1 dx e1 rx q1 => ⟨N, env, _, f.ext' e1, q1, fun y H2 dy e2 ry q2 => ?_⟩⟩
  have r3 := rx.ext e2 f.n.z
  split at q2
  · obtain ⟨l, vs, rfl, nl, hl, rl⟩ := r3
    obtain ⟨b, ws, rfl, nb, hb, rb⟩ := ry
    exact ⟨l, b, vs, ws, rfl, rfl, hl, hb, by rw [← rl.length, ← rb.length]; exact q2.1, fun p hp => k p _ _ _ (newL_lay f (e1.trans e2) hp (rl.append rb)) q2.2⟩
  · exact q2.elim)
/-- list(x) -/
def lList (T : TDE) : TDL := fun ξ env Q => T ξ env fun x => match x with
  | .lst xs => Q xs
  | .tup xs => Q xs
  | _ => False
theorem l_list (hK : F.K = X.K) (hg : Gl X "list") (hm : X.mg "list" = none) (ha : PE X a (tD F Ta)) (he : starEach [a] X.env = (false, eval a X.env) :: starEach [] X.env := by rfl) (hpl : (backTo pos (starEach [] X.env)).any (·.1) = false := by rfl) :
    PE X (.Call (.Name "list" p) [a] [] pos) (tDL F (lList Ta)) := PE.imp (pe_callTy call_list_of hg hm (by decide +kernel) (pa_cons ha pa_nil he) (by decide) (by decide) he hpl) (by
  rintro σ H Q ⟨N, env, Qd, f, hT, k⟩
  refine ⟨N, env, _, f, hT, fun x H1 dx e1 rx q1 => ?_⟩
  rw [← hK]
  split at q1
  · obtain ⟨l, vs, rfl, nl, hl, rl⟩ := rx
    exact ⟨l, vs, rfl, .inl (SqL.of hl), fun p hp => k p _ _ _ (newL_lay f e1 hp rl) q1⟩
  · obtain ⟨l, vs, rfl, hl, rl⟩ := rx
    exact ⟨l, vs, rfl, .inr (sqt_of hl), fun p hp => k p _ _ _ (newL_lay f e1 hp rl) q1⟩
  · exact q1.elim)
/-! ### x = new list; x, y = new list, e -/
def dOwn (T : TDL) (i : Nat) : TDS := fun ξ De env => T ξ env fun ds => De.nx (env.set i (.own ds))
theorem ds_own {i : Nat} {x : Str} {pos' : Pos} (hN : X.N.Nodup) (hi : X.N[i]? = some x) (hx : Loc X.env.scope x) (he : PE X e (tDL F Tl)) (hs : swapsWith e (some (.Name x pos')) pos.line X.env = pure false := by rfl)
    (hf : X.fn x = true ∨ X.env.scope.names.lookup x = some .local := by first | exact .inl rfl | exact .inr rfl | assumption) : PS X (.Assign [.Name x pos'] e pos) (sD F (dOwn Tl i)) :=
  PS.imp (ps_set hN hi hx he hs hf) (by
  rintro De σ H ⟨N, env, Dd, f, hT, ok⟩
  exact ⟨N, env, _, f, hT, fun p vs H' ds n q => ok.nx _ _ _ _ (n.own i) (n.evo f.n) q⟩)
/-- x, y = new list, e -/
def dOwnPar (T : TDL) (Tb : TDE) (i j : Nat) : TDS := fun ξ De env => T ξ env fun ds => Tb ξ env fun y => De.nx ((env.set i (.own ds)).set j (.d y))
theorem NewL.ext' {N : Addr → Prop} {σ : L2.St} {H : Hp} {env : SE} {p : Addr} {vs : List V} {H' H2 : Hp} {ds : List D} (n : NewL F N σ H env p vs H' ds) (nk : NOk F N H) (e : Ext F.Z H' H2) : NewL F N σ H env p vs H2 ds :=
  ⟨n.ext.trans e, n.f.ext' e, e.keep p _ (fun z => n.nb (nk.zin p z)) kp_lst n.at_, n.nb, n.rs.ext e (fun q z => .inl (nk.z q z)), n.ap, n.fr⟩
/-- the old frame, behind the making of a list -/
theorem NewL.old {N : Addr → Prop} {σ : L2.St} {H : Hp} {env : SE} {p : Addr} {vs : List V} {H' : Hp} {ds : List D} (n : NewL F N σ H env p vs H' ds) (f : FOk F N σ H env) : FOk F N σ H' env := f.ext' n.ext
theorem ds_ownPar {i j : Nat} {x y : Str} {px py pt : Pos} {kt k2 pt2} (hc : X.calm = true) (hN : X.N.Nodup) (hi : X.N[i]? = some x) (hj : X.N[j]? = some y) (hij : i ≠ j) (hx : X.env.scope.names.lookup x = some .local) (hy : X.env.scope.names.lookup y = some .local)
    (ha : PE X a (tDL F Tl)) (hb : PE X b (tD F Tb)) (he : starEach [a, b] X.env = (false, eval a X.env) :: starEach [b] X.env := by rfl) (he2 : starEach [b] X.env = (false, eval b X.env) :: starEach [] X.env := by rfl)
    (hw : swappedStores [.Tuple [.Name x px, .Name y py] kt pt] (.Tuple [a, b] k2 pt2) X.env = pure (some [x, y]) := by rfl)
    (hs : swapsWithSole [.Tuple [.Name x px, .Name y py] kt pt] (.Tuple [a, b] k2 pt2) pos.line X.env = pure false := by rfl) : PS X (.Assign [.Tuple [.Name x px, .Name y py] kt pt] (.Tuple [a, b] k2 pt2) pos) (sD F (dOwnPar Tl Tb i j)) :=
  PS.imp (ps_par hc hN hi hj hij hx hy (pa_cons ha (pa_cons hb pa_nil he2) he) hw hs) (by
  rintro De σ H ⟨N, env, Dd, f, hT, ok⟩
  refine ⟨N, env, _, f, hT, fun p vs H1 ds n q => ⟨_, env, _, n.f, q, fun v H2 d e2 r2 q2 => ⟨_, _, rfl, ?_⟩⟩⟩
  have n2 := n.ext' f.n e2
  exact ok.nx _ _ _ _ ((n2.own i).set j r2) (n2.evo f.n) q2)
def dOwnPar3 (T : TDL) (Tb Tc : TDE) (i j l : Nat) : TDS := fun ξ De env => T ξ env fun ds => Tb ξ env fun y => Tc ξ env fun z => De.nx (((env.set i (.own ds)).set j (.d y)).set l (.d z))
theorem ds_ownPar3 {i j l : Nat} {x y z : Str} {px py pz pt : Pos} {kt k2 pt2} (hc : X.calm = true) (hN : X.N.Nodup) (hi : X.N[i]? = some x) (hj : X.N[j]? = some y) (hl : X.N[l]? = some z) (hij : i ≠ j) (hil : i ≠ l) (hjl : j ≠ l)
    (hx : X.env.scope.names.lookup x = some .local) (hy : X.env.scope.names.lookup y = some .local) (hz : X.env.scope.names.lookup z = some .local)
    (ha : PE X a (tDL F Tl)) (hb : PE X b (tD F Tb)) (hc' : PE X c (tD F Tc)) (he : starEach [a, b, c] X.env = (false, eval a X.env) :: starEach [b, c] X.env := by rfl) (he2 : starEach [b, c] X.env = (false, eval b X.env) :: starEach [c] X.env := by rfl) (he3 : starEach [c] X.env = (false, eval c X.env) :: starEach [] X.env := by rfl)
    (hw : swappedStores [.Tuple [.Name x px, .Name y py, .Name z pz] kt pt] (.Tuple [a, b, c] k2 pt2) X.env = pure (some [x, y, z]) := by rfl)
    (hs : swapsWithSole [.Tuple [.Name x px, .Name y py, .Name z pz] kt pt] (.Tuple [a, b, c] k2 pt2) pos.line X.env = pure false := by rfl) : PS X (.Assign [.Tuple [.Name x px, .Name y py, .Name z pz] kt pt] (.Tuple [a, b, c] k2 pt2) pos) (sD F (dOwnPar3 Tl Tb Tc i j l)) :=
  PS.imp (ps_par3 hc hN hi hj hl hij hil hjl hx hy hz (pa_cons ha (pa_cons hb (pa_cons hc' pa_nil he3) he2) he) hw hs) (by
  rintro De σ H ⟨N, env, Dd, f, hT, ok⟩
  refine ⟨N, env, _, f, hT, fun p vs H1 ds n q => ⟨_, env, _, n.f, q, fun v H2 d e2 r2 q2 => ⟨_, env, _, n.f.ext' e2, q2, fun w H3 dw e3 r3 q3 => ⟨_, _, _, rfl, ?_⟩⟩⟩⟩
  have n2 := n.ext' f.n (e2.trans e3)
  exact ok.nx _ _ _ _ (((n2.own i).set j (r2.ext e3 fun q z => .inl (f.n.z q z))).set l r3) (n2.evo f.n) q3)
/-! ### reading it -/
def dOwnIx (i : Nat) (Tb : TDE) : TDE := fun ξ env Q => match env[i]? with
  | some (.own xs) => Tb ξ env fun k => match k with
    | .int j => match atI xs j with
      | some d => Q d
      | none => False
    | _ => False
  | _ => False
theorem d_ownIx {i : Nat} (hK : F.K = X.K) (ha : PE X a (tVar i)) (hb : PE X b (tD F Tb)) (hs : PlainIx b) : PE X (.Subscript a b pos) (tD F (dOwnIx i Tb)) := PE.imp (pe_ix ix_seq ha hb hs) (by
  rintro σ H Q ⟨N, env, Qd, f, hT, k⟩
  unfold dOwnIx at hT
  split at hT
  · rename_i xs hx
    obtain ⟨p, vs, e1, h2, h3, h4, h5⟩ := f.slot i _ hx
    refine ⟨.ref p, e1, N, env, _, f, hT, fun y H1 d e r q => ?_⟩
    split at q
    · split at q
      · rename_i jj _ dv hd
        have h5' := h5.ext e f.n.z
        obtain ⟨v, h6, h7⟩ := atI_rep h5' hd
        cases (show y = .int _ from r)
        exact .inl ⟨p, vs, _, v, rfl, rfl, SqL.of (e.keep p _ (fun z => h3 (f.n.zin p z)) kp_lst h4), h6, k v H1 dv e h7 q⟩
      · exact q.elim
    · exact q.elim
  · exact hT.elim)
/-- the list as data, for a moment -/
theorem FOk.lend {N : Addr → Prop} {σ : L2.St} {H : Hp} {env : SE} (f : FOk F N σ H env) {i : Nat} {xs : List D} (hx : env[i]? = some (.own xs)) : ∃ p vs, σ[i]? = some (some (.ref p)) ∧ N p ∧ ¬ F.B p ∧ H p = some (.lst vs) ∧ FOk F (fun q => N q ∧ q ≠ p) σ H (env.set i (.d (.lst xs))) := by
  obtain ⟨p, vs, e1, h2, h3, h4, h5⟩ := f.slot i _ hx
  refine ⟨p, vs, e1, h2, h3, h4, ⟨f.n.deck, f.n.ext, fun q h => ⟨f.n.sub q h, fun z => h3 (by rw [← z]; exact h)⟩, f.n.zin, fun q h => f.n.all q h.1, fun q h => f.n.new q h.1, fun q o n k h => ?_, f.n.tb⟩, by rw [List.length_set]; exact f.len, fun j s h => ?_, fun j k q ys zs hjk g1 g2 g3 g4 => ?_⟩
  · obtain ⟨a1, a2⟩ := f.n.gr q o n k h
    exact ⟨a1, fun z => a2 z.1⟩
  · by_cases hj : i = j
    · subst hj
      have hl : i < env.length := (List.getElem?_eq_some_iff.mp hx).1
      rw [List.getElem?_set_self hl] at h
      cases h
      exact ⟨.ref p, e1, p, vs, rfl, fun z => z.2 rfl, h4, h5.less fun q z => z.1⟩
    · rw [List.getElem?_set_ne hj] at h
      have q := f.slot j _ h
      cases s with
      | un => trivial
      | raw v => exact q
      | d x => exact let ⟨v, q1, q2⟩ := q; ⟨v, q1, q2.less fun r z => z.1⟩
      | own ys =>
        obtain ⟨r, ws, q1, q2, q3, q4, q5⟩ := q
        exact ⟨r, ws, q1, ⟨q2, fun z => by subst z; exact f.apart i j r xs ys hj hx h e1 q1⟩, q3, q4, q5.less fun r z => z.1⟩
  · have o : ∀ {j : Nat} {ys : List D}, (env.set i (.d (.lst xs)))[j]? = some (.own ys) → env[j]? = some (.own ys) := fun {j ys} h => by
      by_cases hj : i = j
      · subst hj
        rw [List.getElem?_set_self (List.getElem?_eq_some_iff.mp hx).1] at h
        cases h
      · rw [List.getElem?_set_ne hj] at h
        exact h
    exact f.apart j k q ys zs hjk (o g1) (o g2) g3 g4
def flatD : D → Bool
  | .non => true
  | .bl _ => true
  | .int _ => true
  | .str _ => true
  | _ => false
theorem flat_any {K : PySem.W.Frag} {Z : Zn} {N N' : Addr → Prop} {H : Hp} {d : D} {v : V} (h : flatD d = true) (r : Rep K Z N H d v) : Rep K Z N' H d v := by
  cases d <;> first | exact r | cases h
/-- an expression that reads the list of slot i as data and tells something flat -/
def dLend (i : Nat) (T : TDE) : TDE := fun ξ env Q => match env[i]? with
  | some (.own xs) => T (fun _ _ => False) (env.set i (.d (.lst xs))) fun d => flatD d = true ∧ Q d
  | _ => False
theorem d_lend {i : Nat} (h : PE X e (tD F.calm Ta)) : PE X e (tD F (dLend i Ta)) := PE.imp h (by
  rintro σ H Q ⟨N, env, Qd, f, hT, k⟩
  unfold dLend at hT
  split at hT
  · rename_i xs hx
    obtain ⟨p, vs, e1, h2, h3, h4, f2⟩ := f.lend hx
    exact ⟨_, _, _, f2.wish _, hT, fun v H' d e r q => k v H' d e (flat_any q.1 r) q.2⟩
  · exact hT.elim)
/-! ### let go: from now on it is data -/
def dFreeze (i : Nat) (T : TDS) : TDS := fun ξ De env => match env[i]? with
  | some (.own xs) => T ξ De (env.set i (.d (.lst xs)))
  | _ => False
theorem dss_freeze {i : Nat} {sts : List Stmt} {T : TDS} (h : PSs X sts (sD F T)) : PSs X sts (sD F (dFreeze i T)) := PSs.imp h (by
  rintro De σ H ⟨N, env, Dd, f, hT, ok⟩
  unfold dFreeze at hT
  split at hT
  · rename_i xs hx
    obtain ⟨p, vs, e1, h2, h3, h4, f2⟩ := f.lend hx
    exact ⟨_, _, Dd, f2, hT, ok.of fun q o n k h => ⟨h, fun z => n z.1⟩⟩
  · exact hT.elim)
/-! ### x.append(e), x[i] = e -/
theorem FOk.store {N : Addr → Prop} {σ : L2.St} {H1 : Hp} {env : SE} (f : FOk F N σ H1 env) {i : Nat} {xs ys : List D} {p : Addr} {vs ws : List V} (hx : env[i]? = some (.own xs)) (e1 : σ[i]? = some (some (.ref p))) (h2 : N p) (h3 : ¬ F.B p) (h4 : H1 p = some (.lst vs)) (hr : Reps F.K F.Z N H1 ys ws) :
    FOk F N σ (upd H1 p (.lst ws)) (env.set i (.own ys)) ∧ Evo N H1 N (upd H1 p (.lst ws)) := by
  have ev : Evo N H1 N (upd H1 p (.lst ws)) := fun q o n k h => ⟨by rw [upd_ne (fun z => n (by rw [z]; exact h2))]; exact h, n⟩
  have nz : ¬ InZ F.Z p := fun z => h3 (f.n.zin p z)
  refine ⟨⟨⟨⟨fun a l ez => ?_, fun q hq => tab_upd h4 kp_lst (fun _ h => by cases h) (f.n.deck.2 q hq)⟩, ⟨fun q o n k h => ?_, fun dk => ⟨fun a l ez => ?_, fun q hq => tab_upd h4 kp_lst (fun _ h => by cases h) (f.n.deck.2 q hq)⟩⟩, f.n.sub, f.n.zin, fun q h => ?_, f.n.new, f.n.gr.trans ev, f.n.tb⟩, by rw [List.length_set]; exact f.len, fun j s h => ?_, fun j k q ys' zs hjk g1 g2 g3 g4 => ?_⟩, ev⟩
  · obtain ⟨xs, m, c, k1, k2, k3⟩ := f.n.deck.1 a l ez
    exact ⟨xs, m, c, by rw [upd_ne (fun z => nz (by rw [← z]; exact ⟨a, l, ez, .inl rfl⟩))]; exact k1, by rw [upd_ne (fun z => nz (by rw [← z]; exact ⟨a, l, ez, .inr rfl⟩))]; exact k2, k3⟩
  · have ne : q ≠ p := fun z => by
      subst z
      exact f.n.new q h2 h3 o k h
    rw [upd_ne ne]
    exact f.n.ext.keep q o n k h
  · obtain ⟨xs, m, c, k1, k2, k3⟩ := f.n.deck.1 a l ez
    exact ⟨xs, m, c, by rw [upd_ne (fun z => nz (by rw [← z]; exact ⟨a, l, ez, .inl rfl⟩))]; exact k1, by rw [upd_ne (fun z => nz (by rw [← z]; exact ⟨a, l, ez, .inr rfl⟩))]; exact k2, k3⟩
  · by_cases z : q = p
    · subst z
      exact ⟨_, upd_same, kp_lst⟩
    · obtain ⟨o, q1, q2⟩ := f.n.all q h
      exact ⟨o, by rw [upd_ne z]; exact q1, q2⟩
  · have mv : ∀ q o, ¬ N q → Kp o → H1 q = some o → upd H1 p (.lst ws) q = some o ∧ ¬ N q := fun q o n k h => ev q o n k h
    by_cases hj : i = j
    · subst hj
      rw [List.getElem?_set_self (List.getElem?_eq_some_iff.mp hx).1] at h
      cases h
      exact ⟨p, ws, e1, h2, h3, upd_same, Reps.mono mv _ _ hr⟩
    · rw [List.getElem?_set_ne hj] at h
      have q := f.slot j _ h
      cases s with
      | un => trivial
      | raw v => exact q
      | d x => exact let ⟨v, q1, q2⟩ := q; ⟨v, q1, Rep.mono mv _ _ q2⟩
      | own zs =>
        obtain ⟨r, us, q1, q2, q3, q4, q5⟩ := q
        have ne : r ≠ p := fun z => by
          subst z
          exact f.apart i j r xs zs hj hx h e1 q1
        exact ⟨r, us, q1, q2, q3, by rw [upd_ne ne]; exact q4, Reps.mono mv _ _ q5⟩
  · have o : ∀ {j : Nat} {zs : List D}, (env.set i (.own ys))[j]? = some (.own zs) → ∃ us, env[j]? = some (.own us) := fun {j zs} h => by
      by_cases hj : i = j
      · subst hj
        exact ⟨xs, hx⟩
      · rw [List.getElem?_set_ne hj] at h
        exact ⟨zs, h⟩
    obtain ⟨u1, o1⟩ := o g1
    obtain ⟨u2, o2⟩ := o g2
    exact f.apart j k q u1 u2 hjk o1 o2 g3 g4
def dApp (i : Nat) (T : TDE) : TDS := fun ξ De env => match env[i]? with
  | some (.own xs) => T ξ env fun d => xs.length < sizeLine ∧ De.nx (env.set i (.own (xs ++ [d])))
  | _ => False
theorem ds_app {i : Nat} {x : Str} {apos cpos : Pos} (hK : F.K = X.K) (hx : PE X (.Name x p) (tVar i)) (he : PE X e (tD F Ta)) (hbase : attributeBase (.Name x p) "append" X.env (eval (.Name x p) X.env) = eval (.Name x p) X.env := by rfl)
    (hfew : ((backTo cpos (starEach [e] X.env)).all (fun x => !x.1) && (backToKw cpos (keywordEach [] X.env)).all (fun x => x.1.isSome) && decide ([e].length + ([] : List Keyword).length + (if ([] : List Keyword).isEmpty then 0 else 1) < 30)) = true := by rfl)
    (hline : (apos.endLine == cpos.line) = true := by rfl) (hs : starEach [e] X.env = (false, eval e X.env) :: starEach [] X.env := by rfl) (hplain : (backTo cpos (starEach [] X.env)).any (·.1) = false := by rfl)
    (hsw : swapsWith (.Call (.Attribute (.Name x p) "append" apos) [e] [] cpos) none pos.line X.env = pure false := by rfl) : PS X (.Expr (.Call (.Attribute (.Name x p) "append" apos) [e] [] cpos) pos) (sD F (dApp i Ta)) :=
  PS.imp (ps_expr (pe_bm PySem.F.plainAttrs_list PySem.F.slot_list_append PySem.F.type_list_append mt_append hx (pa_cons he pa_nil hs) hbase hfew hline hs hplain) hsw) (by
  rintro De σ H ⟨N, env, Dd, f, hT, ok⟩
  unfold dApp at hT
  split at hT
  · rename_i xs hx
    obtain ⟨p, vs, e1, h2, h3, h4, h5⟩ := f.slot i _ hx
    refine ⟨.ref p, e1, .inl ⟨rfl, vs, by rw [← hK]; exact SqL.of h4⟩, N, env, _, f, hT, fun v H1 d ex r q => ?_⟩
    have f1 := f.ext' ex
    have h4' : H1 p = some (.lst vs) := ex.keep p _ (fun z => h3 (f.n.zin p z)) kp_lst h4
    have h5' := h5.ext ex f.n.z
    refine ⟨p, vs, v, rfl, rfl, h4', by rw [← h5.length]; exact q.1, ?_⟩
    obtain ⟨f2, ev⟩ := f1.store hx e1 h2 h3 h4' (h5'.snoc r)
    exact ok.nx _ _ _ _ f2 ((Evo.of f.n ex).trans ev) q.2
  · exact hT.elim)
/-- x[k] = e -/
def dSetAt (i : Nat) (Tk Te : TDE) : TDS := fun ξ De env => Te ξ env fun d => match env[i]? with
  | some (.own xs) => Tk ξ env fun k => match k with
    | .int j => match ixN xs.length j with
      | some n => De.nx (env.set i (.own (xs.set n d)))
      | none => False
    | _ => False
  | _ => False
theorem Reps.set {K : PySem.W.Frag} {Z : Zn} {N : Addr → Prop} {H : Hp} {d : D} {v : V} (r : Rep K Z N H d v) : ∀ {ds : List D} {vs : List V} (n : Nat), Reps K Z N H ds vs → Reps K Z N H (ds.set n d) (vs.set n v)
  | [], _, _, h => by cases h; rfl
  | x :: ds, _, 0, ⟨w, u, rfl, h1, h2⟩ => ⟨v, u, rfl, r, h2⟩
  | x :: ds, _, n + 1, ⟨w, u, rfl, h1, h2⟩ => ⟨w, u.set n v, rfl, h1, Reps.set r n h2⟩
theorem ds_setAt {i : Nat} {x : Str} {pk : Expr} {sp : Pos} (hx : PE X (.Name x p) (tVar i)) (hk : PE X pk (tD F Tb)) (he : PE X e (tD F Ta))
    (hA : ∀ v, assign (.Subscript (.Name x p) pk sp) X.env v = (do
      let ov ← holding [v] (eval (.Name x p) X.env)
      let iv ← holding [v, ov] (eval pk X.env)
      standAt sp
      holding [v, ov, iv] (setItem ov iv v)
      release [v, ov, iv] []) := by intro _; rfl)
    (hs : swapsWithSole [.Subscript (.Name x p) pk sp] e pos.line X.env = pure false := by rfl) (hw : swappedStores [.Subscript (.Name x p) pk sp] e X.env = pure none := by rfl) (h1 : (assignEach [.Subscript (.Name x p) pk sp] X.env).map (·.2) = [assign (.Subscript (.Name x p) pk sp) X.env] := by rfl) :
    PS X (.Assign [.Subscript (.Name x p) pk sp] e pos) (sD F (dSetAt i Tb Ta)) := PS.imp (ps_asg he (pg_sub hx hk set_list hA) hs hw h1) (by
  rintro De σ H ⟨N, env, Dd, f, hT, ok⟩
  refine ⟨N, env, _, f, hT, fun v H1 d e1 r q => ?_⟩
  split at q
  · rename_i xs hx
    have f1 := f.ext' e1
    obtain ⟨p, vs, s1, h2, h3, h4, h5⟩ := f1.slot i _ hx
    refine ⟨.ref p, s1, N, env, _, f1, q, fun kv H2 dk e2 r2 q2 => ?_⟩
    split at q2
    · split at q2
      · rename_i j _ n hn
        cases (show kv = .int j from r2)
        have f2 := f1.ext' e2
        have h4' : H2 p = some (.lst vs) := e2.keep p _ (fun z => h3 (f1.n.zin p z)) kp_lst h4
        have h5' := h5.ext e2 f1.n.z
        refine ⟨p, vs, j, n, rfl, rfl, h4', by rw [← h5.length]; exact hn, ?_⟩
        obtain ⟨f3, ev⟩ := f2.store hx s1 h2 h3 h4' (Reps.set (r.ext e2 f1.n.z) n h5')
        exact ok.nx _ _ _ _ f3 ((Evo.of f.n (e1.trans e2)).trans ev) q2
      · exact q2.elim
    · exact q2.elim
  · exact q.elim)
end
end DL
set_option Elab.async false
set_option linter.all false
set_option maxRecDepth 100000
set_option maxHeartbeats 2000000
/-! dicts as data; repr of all data; x[::-1] -/
namespace DL
open PySem PySem.Spec L2
open PyProof.Rows hiding St
/-- the table of modules is a dict of the top -/
def smB (K : PySem.W.Frag) : Bool := match K.lookup sysModules with
  | some ⟨.type "dict", _, _, _⟩ => true
  | _ => false
theorem sm_ne {K : PySem.W.Frag} {h : Heap} (X : K.In h) (c : smB K = true) {a : Addr} {o : Obj} (e : h.get? a = some o) (hc : o.cls = .type "list") : a ≠ sysModules := fun z => by
  subst z
  unfold smB at c
  split at c
  · rename_i d1 d2 d3 q
    have y := X _ _ q
    rw [e] at y
    have y2 := congrArg Obj.cls (Option.some.inj y)
    rw [hc] at y2
    exact absurd (show Value.type "list" = Value.type "dict" from y2) (by decide)
  · cases c
def keyP : Key → PyData
  | .inl i => .int i
  | .inr x => .str x
mutual
def plainR : D → Bool
  | .tup ds => plainRs ds
  | .lst ds => plainRs ds
  | .dct ks ds => decide (ks.length = ds.length) && plainRs ds
  | .deck => false
  | .ty _ => false
  | .kt _ => false
  | _ => true
def plainRs : List D → Bool
  | [] => true
  | d :: ds => plainR d && plainRs ds
end
theorem toPk_keys : ∀ {ks : List Key} {ds : List D}, ks.length = ds.length → (toPk ks ds).map (·.1) = ks.map keyP ∧ (toPk ks ds).map (·.2) = toPs ds
  | [], [], _ => ⟨rfl, rfl⟩
  | [], _ :: _, h => by cases h
  | _ :: _, [], h => by cases h
  | k :: ks, d :: ds, h => by
    obtain ⟨h1, h2⟩ := toPk_keys (ks := ks) (ds := ds) (by simpa using h)
    simp only [toPk, List.map_cons, h1, h2, toPs]
    refine ⟨?_, trivial⟩
    cases k <;> rfl
section
variable {X : Cx} {pins : List (Addr × Obj)} {σ : L2.St} {H : Hp} {s : Shared} {K : PySem.W.Frag} {Z : Zn} {N : Addr → Prop}
theorem pairs_reads {P : Program} {w : World} {h : Heap} : ∀ {es : List DictEntry} {ks : List Key} {vs : List V} {us : List (Key × Value)}, KV (ks.zip vs) us → ks.length = vs.length → Pairs (mixKind P w) es us → ReadsAll h (es.map (·.key)) (ks.map keyP) [] ∧ Vals vs (es.map (·.val))
  | es, [], [], us, kv, _, p => by
    cases kv
    cases p
    exact ⟨.nil, .nil⟩
  | es, [], _ :: _, us, kv, l, p => by cases l
  | es, _ :: _, [], us, kv, l, p => by cases l
  | es, k :: ks, v :: vs, us, kv, l, p => by
    rw [List.zip_cons_cons] at kv
    cases kv with
    | cons a b =>
      cases p with
      | cons p1 p2 p3 =>
        rename_i e es'
        obtain ⟨h1, h2⟩ := pairs_reads (h := h) b (by simpa using l) p3
        have a1 := a.1
        dsimp only at a1
        rw [← a1] at p1
        refine ⟨?_, .cons (by show L2.RelV v e.val; rw [p2]; exact a.2) h2⟩
        rcases keyIs_shape (show keyIs k e.key = true from p1) with ⟨i, t, rfl, e2⟩ | ⟨x, t, rfl, e2⟩
        · rw [List.map_cons, e2]
          exact ReadsAll.cons (as := []) (.int i t) h1
        · rw [List.map_cons, e2]
          exact ReadsAll.cons (as := []) (.str x t) h1
mutual
/-- data is read as the library reads it, dicts too -/
theorem Rep.reads (I : Inv X pins σ H s) (c : smB X.K = true) : ∀ (d : D) (v : V) (u : Value), plainR d = true → Rep X.K Z N H d v → RelV v u → ∃ as, Reads s.heap u (toP d) as ∧ sysModules ∉ as
  | .non, _, _, _, h, r => by
    cases (show _ = V.non from h)
    cases (show _ = Value.none from r)
    exact ⟨_, .none, by simp⟩
  | .bl b, _, _, _, h, r => by
    cases (show _ = V.bl b from h)
    cases (show _ = Value.bool b from r)
    exact ⟨_, .bool b, by simp⟩
  | .int i, _, _, _, h, r => by
    cases (show _ = V.int i from h)
    obtain ⟨t, rfl⟩ := (show ∃ t, _ = Value.int i t from r)
    exact ⟨_, .int i t, by simp⟩
  | .str x, _, _, _, h, r => by
    cases (show _ = V.str x from h)
    obtain ⟨t, rfl⟩ := (show ∃ t, _ = Value.str x t from r)
    exact ⟨_, .str x t, by simp⟩
  | .tup ds, _, u, p, h, r => by
    obtain ⟨a, vs, rfl, ra, rs⟩ := h
    cases (show u = Value.ref a from r)
    obtain ⟨its, rv, ⟨o, ho, hc, n, hd⟩, _⟩ := I.tuple (sqt_of ra)
    obtain ⟨as, hr, hn⟩ := Reps.reads I c ds vs its p rs rv
    exact ⟨as, .tuple ho hc hd (by simpa using hr), hn⟩
  | .lst ds, _, u, p, h, r => by
    obtain ⟨a, vs, rfl, na, ra, rs⟩ := h
    cases (show u = Value.ref a from r)
    obtain ⟨its, rv, ⟨o, n, ho, hc, _, hd⟩, _⟩ := I.list (SqL.of ra)
    obtain ⟨as, hr, hn⟩ := Reps.reads I c ds vs its p rs rv
    refine ⟨_, .list ho hc hd (by simpa using hr), fun z => ?_⟩
    rcases List.mem_cons.mp z with z | z
    · exact sm_ne I.kIn c ho hc z.symm
    · exact hn z
  | .dct ks ds, _, u, p, h, r => by
    obtain ⟨a, vs, rfl, na, ra, lk, rs⟩ := h
    cases (show u = Value.ref a from r)
    obtain ⟨p1, p2⟩ := Bool.and_eq_true_iff.mp p
    obtain ⟨z, hs, us, kv, o, es, ep, ho, hx, hd, _, hp, _⟩ := dk_of I.hok ra
    obtain ⟨h1, h2⟩ := pairs_reads (h := s.heap) kv lk hp
    obtain ⟨as, hr, hn⟩ := Reps.reads I c ds vs _ p2 rs h2
    obtain ⟨k1, k2⟩ := toPk_keys (of_decide_eq_true p1)
    refine ⟨_, .dict ho hx.1 hd (by rw [k1]; exact h1) (by rw [k2]; exact hr), fun y => ?_⟩
    rcases List.mem_append.mp y with y | y
    · rcases List.mem_cons.mp y with y | y
      · rw [y] at hs
        simp at hs
      · cases y
    · exact hn y
  | .deck, _, _, p, _, _ => by cases p
  | .ty _, _, _, p, _, _ => by cases p
  | .kt _, _, _, p, _, _ => by cases p
theorem Reps.reads (I : Inv X pins σ H s) (c : smB X.K = true) : ∀ (ds : List D) (vs : List V) (us : List Value), plainRs ds = true → Reps X.K Z N H ds vs → Vals vs us → ∃ as, ReadsAll s.heap us (toPs ds) as ∧ sysModules ∉ as
  | [], _, _, _, h, r => by
    cases h
    cases r
    exact ⟨_, .nil, by simp⟩
  | d :: ds, _, _, p, h, r => by
    obtain ⟨v, w, rfl, h1, h2⟩ := h
    obtain ⟨p1, p2⟩ := Bool.and_eq_true_iff.mp p
    cases r with
    | cons r1 r2 =>
      obtain ⟨as, q1, n1⟩ := Rep.reads I c d v _ p1 h1 r1
      obtain ⟨bs, q2, n2⟩ := Reps.reads I c ds w _ p2 h2 r2
      exact ⟨_, .cons q1 q2, fun z => (List.mem_append.mp z).elim n1 n2⟩
end
end
section
variable {X : Cx} {F : FP} {e : Expr} {es : List Expr} {pos : Pos} {Tas : TDA} {Ta Tb : TDE}
/-! ### repr -/
def showR (d : D) : Prop := plainR d = true ∧ (toP d).showable = true ∧ (toP d).depth ≤ 64 ∧ ((toP d).shown).length ≤ sizeLine
def gReprR : GA := fun xs Q => match xs with
  | [d] => showR d ∧ Q (.str (toP d).shown)
  | _ => False
def rReprR (K : PySem.W.Frag) : List V → Hp → VK → Prop := fun vs H Q => ∃ v d Z N, vs = [v] ∧ Rep K Z N H d v ∧ showR d ∧ Q (.str (toP d).shown) H
theorem cr_reprR (c : smB X.K = true) (hg : X.A.guards = some []) (hu : X.A.units + 80 < cLine) : CallR X (.builtin "repr") (rReprR X.K) := by
  intro pins s σ H vs us Q I r h
  obtain ⟨v, d, Z, N, rfl, rp, ⟨h0, h1, h3, h4⟩, q⟩ := h
  obtain ⟨u, rfl, rv⟩ := vals1 r
  obtain ⟨as, rd, na⟩ := Rep.reads I c d v u h0 rp rv
  generalize toP d = y at *
  cases rd with
  | none => exact PySem.P.repr_of_none ⟨.str _, H, I.tok _, ⟨_, rfl⟩, q⟩
  | bool b => exact PySem.P.repr_of_bool ⟨.str _, H, I.tok _, ⟨_, rfl⟩, q⟩
  | int i t => exact PySem.P.repr_of_int (of_decide_eq_true h1) ⟨.str _, H, I.tok _, ⟨_, rfl⟩, q⟩
  | str x t => exact PySem.P.repr_of_str ⟨.str _, H, I.tok _, ⟨_, rfl⟩, q⟩ h4
  | list e1 e2 e3 e4 =>
    exact repr_of_reads' (h₀ := s.heap) (.list e1 e2 e3 e4) h1 (fun _ => na) hg (by omega) (fun _ _ z => z) (fun h' u tk hk => ⟨.str _, H, I.kept (t' := tk) hk, ⟨_, rfl⟩, q⟩) h4
  | tuple e1 e2 e3 e4 =>
    exact repr_of_reads' (h₀ := s.heap) (.tuple e1 e2 e3 e4) h1 (fun _ => na) hg (by omega) (fun _ _ z => z) (fun h' u tk hk => ⟨.str _, H, I.kept (t' := tk) hk, ⟨_, rfl⟩, q⟩) h4
  | dict e1 e2 e3 e4 e5 =>
    exact repr_of_reads' (h₀ := s.heap) (.dict e1 e2 e3 e4 e5) h1 (fun _ => na) hg (by omega) (fun _ _ z => z) (fun h' u tk hk => ⟨.str _, H, I.kept (t' := tk) hk, ⟨_, rfl⟩, q⟩) h4
theorem cd_reprR : CallD F (rReprR F.K) gReprR := ⟨by
  intro N H vs ds Qd Q n r h k
  unfold gReprR at h
  split at h
  · rename_i d
    obtain ⟨v, r, rfl, h1, h2⟩ := r
    cases h2
    exact ⟨v, d, F.Z, N, rfl, h1, h.1, k _ _ _ Ext.refl rep_str h.2⟩
  · exact h.elim⟩
theorem d_reprR {p : Pos} (hK : F.K = X.K) (c : smB X.K = true) (hgd : X.A.guards = some []) (hu : X.A.units + 80 < cLine) (hg : Gl X "repr") (hm : X.mg "repr" = none) (ha : PA X (e :: es) (tDA F Tas))
    (he : starEach (e :: es) X.env = (false, eval e X.env) :: starEach es X.env := by rfl) (hpl : (backTo pos (starEach es X.env)).any (·.1) = false := by rfl) : PE X (.Call (.Name "repr" p) (e :: es) [] pos) (tD F (dCB gReprR Tas)) := by
  have z := cd_reprR (F := F)
  rw [hK] at z
  exact d_callB z (cr_reprR c hgd hu) hg hm (by decide +kernel) ha (by decide) (by decide) he hpl
/-! ### {}, {k: v} -/
theorem d_dict0 : PE X (.Dict [] [] pos) (tD F (dC (.dct [] []))) := PE.imp pe_dnewK (by
  rintro σ H Q ⟨N, env, Qd, f, hT, k⟩
  exact fun p hp => k _ _ (.dct [] []) (f.n.lay hp) ⟨p, [], rfl, f.n.fresh hp, upd_same, rfl, rfl⟩ hT)
def dDict1 (k : Key) (T : TDE) : TDE := fun ξ env Q => T ξ env fun d => Q (.dct [k] [d])
theorem d_dict1 {ke ve : Expr} {ky : Key} (hk : PE X ke (tC (kV ky))) (hv : PE X ve (tD F Ta)) : PE X (.Dict [some ke] [ve] pos) (tD F (dDict1 ky Ta)) := PE.imp (pe_disp (pps_cons hk hv pps_nil) rfl rfl (fun z => by cases z) (by show 1 ≤ 15; decide)) (by
  rintro σ H Q ⟨N, env, Qd, f, hT, k⟩
  intro p hp
  have np := f.n.fresh hp
  have fp := f.with (o := .dK []) kp_dk hp (f.nb hp)
  refine ⟨_, env, _, fp, hT, fun v H1 d e1 r1 q1 => ?_⟩
  have hp1 : H1 p = some (.dK []) := e1.keep p _ (fun z => np (f.n.z p z)) kp_dk upd_same
  refine ⟨hp1, [(ky, v)], rfl, (by show 1 ≤ 15; decide), ?_⟩
  have nz : ¬ InZ F.Z p := fun z => np (f.n.z p z)
  have ee : Ext F.Z H (upd H1 p (.dK (mergeK [] [(ky, v)]))) := by
    have e0 := (f.n.lay (o := .dK []) hp).trans e1
    refine ⟨fun q o n kp h => ?_, fun dk => ⟨fun a l ez => ?_, fun q hq => tab_upd hp1 kp_dk (fun _ h => by cases h) ((e0.deck dk).2 q hq)⟩⟩
    · rw [upd_ne (ne_of_none h hp)]
      exact e0.keep q o n kp h
    · obtain ⟨xs, m, c, k1, k2, k3⟩ := (e0.deck dk).1 a l ez
      exact ⟨xs, m, c, by rw [upd_ne (fun z => nz (by rw [← z]; exact ⟨a, l, ez, .inl rfl⟩))]; exact k1, by rw [upd_ne (fun z => nz (by rw [← z]; exact ⟨a, l, ez, .inr rfl⟩))]; exact k2, k3⟩
  refine k _ _ (.dct [ky] [d]) ee ⟨p, [v], rfl, np, ?_, rfl, v, [], rfl, ?_, rfl⟩ q1
  · rw [upd_same]
    rfl
  · refine Rep.mono (fun q o n kp h => ⟨?_, fun z => n (.inl z)⟩) d v r1
    rw [upd_ne (fun z => n (.inr z))]
    exact h)
/-! ### x[::-1] -/
section
variable {prog : Program} {w : World} {A : Around} {E : Value → Shared → Prop} {s : Shared}
theorem adjust_rev (n : Nat) : Builtin.Slice.sliceAdjust none none (-1) (n : Int) = ((n : Int) - 1, -1) := by
  unfold Builtin.Slice.sliceAdjust
  rfl
theorem places_rev (n : Nat) : Builtin.Slice.slicePlaces ((n : Int) - 1) (-1) (-1) = n := by
  unfold Builtin.Slice.slicePlaces
  rw [if_neg (by decide), show (- -1 : Int) = 1 by decide, Int.ediv_one]
  split <;> omega
theorem applied_rev {sl : Addr} {u : Tok} {n : Nat} {Q : Int × Int × Nat → Shared → Prop} (hs : s.heap.IsSliceOf sl .none .none (.int (-1) u)) (h : Q ((n : Int) - 1, -1, n) s) : wpAny (model prog w) A (Builtin.Slice.sliceApplied (.ref sl) (pure (n : Int))) Q E s := by
  obtain ⟨os, hos, hcs, hds⟩ := id hs
  unfold Builtin.Slice.sliceApplied Builtin.Slice.sliceFields
  refine wpAny_bind (wpAny_bind (wpAny_field hos hds (x := .none) rfl (wpAny_bind (wpAny_field hos hds (x := .none) rfl (wpAny_bind (wpAny_field hos hds (x := .int (-1) u) rfl (wpAny_pure ?_)))))))
  refine wpAny_bind (slicePart_int ?_)
  show wpAny _ _ (if ((-1 : Int) == 0) = true then _ else _) _ _ s
  rw [if_neg (by decide)]
  refine wpAny_bind (slicePart_none (wpAny_bind (slicePart_none (wpAny_bind (wpAny_pure ?_)))))
  show wpAny _ _ (match Builtin.Slice.sliceAdjust none none (-1) (n : Int) with | (lo, hi) => pure (lo, (-1 : Int), Builtin.Slice.slicePlaces lo hi (-1))) _ _ s
  rw [adjust_rev]
  show wpAny _ _ (pure ((n : Int) - 1, (-1 : Int), Builtin.Slice.slicePlaces ((n : Int) - 1) (-1) (-1))) _ _ s
  rw [places_rev]
  exact wpAny_pure h
theorem filterMap_on {α β : Type} {f g : α → Option β} : ∀ {l : List α}, (∀ m ∈ l, f m = g m) → l.filterMap f = l.filterMap g
  | [], _ => rfl
  | a :: l, h => by
    rw [List.filterMap_cons, List.filterMap_cons, h a List.mem_cons_self, filterMap_on fun m hm => h m (List.mem_cons_of_mem _ hm)]
theorem pick_rev (xs : Array Value) : ((List.range xs.size).filterMap fun (m : Nat) => xs[((xs.size : Int) - 1 + (m : Int) * (-1)).toNat]?).toArray = xs.toList.reverse.toArray := by
  congr 1
  have e : ((List.range xs.size).filterMap fun (m : Nat) => xs[((xs.size : Int) - 1 + (m : Int) * (-1)).toNat]?) = ((List.range xs.size).map fun m => xs.size - 1 - m).filterMap fun m => xs[m]? := by
    rw [List.filterMap_map]
    refine filterMap_on fun m hm => ?_
    have := List.mem_range.mp hm
    have e2 : ((xs.size : Int) - 1 + (m : Int) * (-1)).toNat = xs.size - 1 - m := by omega
    rw [e2]
    rfl
  rw [e, PySem.W.krv_range, List.filterMap_reverse, PySem.W.krv_all]
theorem getItem_tup_rev {t sl : Addr} {items : Array Value} {u : Tok} {Q : Value → Shared → Prop} (ht : IsTup s.heap t items) (hs : s.heap.IsSliceOf sl .none .none (.int (-1) u))
    (h : Q (.ref s.heap.objs.size) { s with heap := s.heap.push { cls := .type "tuple", data := .seq items.toList.reverse.toArray } }) (hsz : items.size ≤ sizeLine) : wpAny (model prog w) A (getItem (.ref t) (.ref sl)) Q E s := by
  have fits : sizeOk (.seq items.toList.reverse.toArray) := by
    show items.toList.reverse.toArray.size ≤ sizeLine
    simpa using hsz
  have hTs : s.TypeIs (.ref sl) "slice" := let ⟨os, hos, hcs, _⟩ := hs; ⟨os, hos, hcs⟩
  unfold getItem
  try with_reducible refine wpAny_holding ?_
  first | refine wpAny_bind (wpAny_pure ?_) | skip
  refine wpAny_bind (wpAny_sequenceKey ht.typeIs (by decide) ?_)
  refine wpAny_bind (wpAny_callSpecial?_slot (name := Str.ofString "__getitem__") ht.typeIs PyProof.Rows.slot_tuple_getitem (wpAny_call_entry PyProof.Rows.slot_tuple_getitem ht.typeIs entry_tuple_getitem ?_ (args_tuple_getitem _ _)))
  show wpAny _ _ (Builtin.Tuple.tupleItemsOf (.ref t) >>= _) _ _ s
  refine wpAny_bind (tupleItemsOf_ ht (wpAny_bind (wpAny_typeOf hTs ?_)))
  rw [if_pos (by decide)]
  refine wpAny_bind (applied_rev hs ?_)
  have no : ¬ ((((items.size : Int) - 1 == 0) && ((-1 : Int) == 1) && (items.size == items.size)) = true) := by
    intro q
    rw [Bool.and_eq_true, Bool.and_eq_true] at q
    exact absurd q.1.2 (by decide)
  show wpAny _ _ (if (((items.size : Int) - 1 == 0) && ((-1 : Int) == 1) && (items.size == items.size)) = true then _ else _) _ _ s
  rw [if_neg no, pick_rev]
  first
    | exact wpAny_bind (m := Builtin.Tuple.tupleExact _) (wpAny_newObj_type (wpAny_pure ⟨_, rfl, wpAny_pure h⟩) fits)
    | exact wpAny_bind (m := Builtin.Tuple.tupleExact _) (wpAny_newObj_type (wpAny_bind (wpAny_pure (wpAny_pure ⟨_, rfl, wpAny_pure h⟩))) fits)
    | exact wpAny_bind (wpAny_bind (m := Builtin.Tuple.tupleExact _) (wpAny_newObj_type (wpAny_pure (wpAny_pure ⟨_, rfl, wpAny_pure h⟩)) fits))
    | exact wpAny_bind (wpAny_bind (m := Builtin.Tuple.tupleExact _) (wpAny_newObj_type (wpAny_pure ⟨_, rfl, wpAny_pure h⟩) fits))
end
def tRevT (K : PySem.W.Frag) (te : TE) : TE := fun σ H Q => te σ H fun x H1 => ∃ a xs, x = .ref a ∧ SqT K H1 a xs ∧ ∀ p, H1 p = none → Q (.ref p) (upd H1 p (.tup xs.reverse))
theorem pe_revT {te : TE} {k : Nat} {p1 p2 p3 : Pos} (he : PE X e te) : PE X (.Subscript e (.Slice none none (some (.UnaryOp .USub (.Constant (.int 1) k p1) p2)) p3) pos) (tRevT X.K te) := by
  refine ⟨fun pins s σ H Q I h => ?_⟩
  refine Subscript_ (thn (he.run pins s σ H _ I h) fun v s1 ⟨x, H1, I1, r1, a, xs, ex, hx, q⟩ => ?_)
  subst ex
  cases r1
  have hst : PO X (some (.UnaryOp .USub (.Constant (.int 1) k p1) p2)) (tPart (tUn (rU fun i => .int (-i)) (tC (.int 1)))) := po_some (pe_un un_neg pe_int)
  refine wpAny_Slice (thn (po_none.run pins s1 σ H1 (fun o H2 => o = none ∧ H2 = H1) I1 ⟨rfl, rfl⟩) fun vl s2 ⟨l, H2, I2, pl, el, e2⟩ => thn (po_none.run pins s2 σ H2 (fun o H3 => o = none ∧ H3 = H2) I2 ⟨rfl, rfl⟩) fun vu s3 ⟨u, H3, I3, pu, eu, e3⟩ =>
    thn (hst.run pins s3 σ H3 (fun o H4 => o = some (-1) ∧ H4 = H3) I3 ⟨1, rfl, -1, rfl, rfl, rfl⟩) fun vs s4 ⟨o, H4, I4, ps, eo, e4⟩ => ?_)
  subst el e2 eu e3 eo e4
  cases pl
  cases pu
  obtain ⟨t, rfl⟩ : ∃ t, vs = Value.int (-1) t := by
    cases ps with
    | int i t => exact ⟨t, rfl⟩
  have I5 : L2.Inv X pins σ H4 { s4 with heap := s4.heap.push { cls := .type "slice", data := .fields #[.none, .none, .int (-1) t] } } := I4.kept (t' := s4.toks) fun b ob q => Heap.get?_push_of_some _ q
  obtain ⟨its, r, ht, hz⟩ := I5.tuple hx
  have hlen := r.length
  show wpAny (model X.prog X.w) X.A (subscriptTail e (.Slice none none (some (.UnaryOp .USub (.Constant (.int 1) k p1) p2)) p3) (.ref a) (.ref s4.heap.objs.size)) (EP X pins σ Q) X.xe { s4 with heap := s4.heap.push { cls := .type "slice", data := .fields #[.none, .none, .int (-1) t] } }
  refine tail_any (ops := [.ref a, .ref s4.heap.objs.size]) ht.typeIs (PyProof.Rows.slot_tuple_getitem.lookup) ?_ (by with_unfolding_all rfl)
  refine getItem_tup_rev ht (Heap.IsSliceOf.new _ _ _ _) ?_ (by rw [List.size_toArray]; omega)
  refine ⟨.ref _, _, I5.laid (t' := s4.toks) (o := .tup xs.reverse) (fun b ob q => Heap.get?_push_of_some _ q) (Nat.le_refl _) ?_, rfl, q _ (I5.hok.fresh (Nat.le_refl _))⟩
  exact ⟨by rw [List.length_reverse]; exact hz, its.reverse, r.reverse, _, Heap.get?_push_size _ rfl, rfl, 0, by simp⟩
def gRev : G1 := fun x Q => match x with
  | .tup ds => Q (.tup ds.reverse)
  | _ => False
theorem Reps.rev {K : PySem.W.Frag} {Z : Zn} {N : Addr → Prop} {H : Hp} : ∀ {ds : List D} {vs : List V}, Reps K Z N H ds vs → Reps K Z N H ds.reverse vs.reverse
  | [], _, h => by cases h; rfl
  | d :: ds, _, ⟨v, r, e, h1, h2⟩ => by
    subst e
    rw [List.reverse_cons, List.reverse_cons]
    exact (Reps.rev h2).snoc h1
/-- t[::-1] -/
theorem d_rev {k : Nat} {p1 p2 p3 : Pos} (hK : F.K = X.K) (he : PE X e (tD F Ta)) : PE X (.Subscript e (.Slice none none (some (.UnaryOp .USub (.Constant (.int 1) k p1) p2)) p3) pos) (tD F (dUn gRev Ta)) := PE.imp (pe_revT he) (by
  rintro σ H Q ⟨N, env, Qd, f, hT, kk⟩
  refine ⟨N, env, _, f, hT, fun x H1 d e1 r1 q1 => ?_⟩
  cases d <;> first | exact q1.elim | skip
  rename_i ds
  obtain ⟨a, vs, rfl, ra, rs⟩ := r1
  have n1 := (f.ext' e1).n
  exact ⟨a, vs, rfl, by rw [← hK]; exact sqt_of ra, fun p hp => kk _ _ (.tup ds.reverse) (e1.trans (n1.lay hp)) (rep_newT n1 hp rs.rev) q1⟩)
end
end DL
set_option Elab.async false
set_option linter.all false
set_option maxRecDepth 100000
set_option maxHeartbeats 2000000
/-! a lambda handed to a def that calls it, over data -/
namespace DL
open PySem PySem.Spec L2 LamX
open PyProof.Rows hiding St
theorem PE.exP {X : Cx} {e : Expr} {α : Sort _} {t : α → TE} (h : ∀ i, PE X e (t i)) : PE X e (fun σ H Q => ∃ i, t i σ H Q) := ⟨fun pins s σ H Q I ⟨i, q⟩ => (h i).run pins s σ H Q I q⟩
theorem PE.andP {X : Cx} {e : Expr} {p : Prop} {t : TE} (h : p → PE X e t) : PE X e (fun σ H Q => p ∧ t σ H Q) := ⟨fun pins s σ H Q I ⟨i, q⟩ => (h i).run pins s σ H Q I q⟩
theorem takes_lam {X : Cx} {A : Around} {outer : List Env} {s : Shared} {H : Hp} {E : XK} {scope : Scope} {f c' : Addr} : Takes (lamCx X A outer s H E scope f c') (fun c od _ H' => E c od H') := takes_of rfl rfl rfl rfl
/-- the maker's names, seen from the lambda: no list of the maker's own -/
def hide (env : SE) : SE := env.map fun s => match s with
  | .own _ => .un
  | s => s
theorem hide_get {env : SE} {i : Nat} {s : Slot} (h : (hide env)[i]? = some s) : s = .un ∨ (env[i]? = some s ∧ ∀ xs, s ≠ .own xs) := by
  unfold hide at h
  rw [List.getElem?_map] at h
  cases q : env[i]? with
  | none => rw [q] at h; cases h
  | some u =>
    rw [q] at h
    cases u with
    | own xs => cases h; exact .inl rfl
    | un => cases h; exact .inl rfl
    | d x => cases h; exact .inr ⟨rfl, fun xs z => by cases z⟩
    | raw v => cases h; exact .inr ⟨rfl, fun xs z => by cases z⟩
def dHole (v : V) (Tl : TDE) (env : SE) : TDE := fun ξ env' Q => env'[0]? = some (.raw v) ∧ Tl (fun x _ => ξ x env') (hide env) Q
def dLam (n : Nat) (Tt : TDE → TDS) (Tl : TDE) : TDE := fun _ env Q => ∀ v, Tt (dHole v Tl env) (fun _ _ => False) { nx := fun _ => Q .non, rt := Q } (.raw v :: List.replicate (n - 1) .un)
section
variable {X : Cx} {pins : List (Addr × Obj)} {σ : L2.St} {H : Hp} {s : Shared}
/-- the call of what was handed over -/
theorem pe_hole {Eg : XK} {Ng : List Str} {qg : Str} {sg : Scope} {g f c' : Addr} {cdg pm ctv : Value} {params : Arguments} {body : Expr} {scope : Scope} {k i : Nat} {a : Str} {pn : List (Addr × Obj)} {xe : Value → Shared → Prop} {W : WX} {tb : XK → TE} {p1 p2 : Pos} {CXg : CXT}
    (J : Inv X pins σ H s) (L : LamS X.env.scope scope) (ob : s.heap.get? f = some (PySem.W.kla_obj "<lambda>" (X.env.qual ++ "<lambda>") params body scope (cloFrom X.env.cells scope.names []) pm c' ctv)) (fr1 : H f = none) (fr2 : f ∉ frs X.stack)
    (bnd : bindArgs (PySem.W.kla_fn "<lambda>" (X.env.qual ++ "<lambda>") params body scope (cloFrom X.env.cells scope.names []) pm (.ref c') ctv) ⟨[], []⟩ = pure []) (room : RoomG (k + 1) (X.A.deeper (envOfC qg sg s.heap.objs.size g cdg)))
    (run : ∀ (A : Around) (outer : List Env) (s : Shared) (H : Hp) (E : XK), RoomG k (A.deeper (lamEnv X scope s.heap.objs.size f c')) → PE (lamCx X A outer s H E scope f c') body (tb E))
    (tk : Takes ((cxOf CXg X.prog X.w X.K X.mg X.base Ng qg sg g cdg X.A X.stack s H Eg).tr pn xe) W) (at_ : Ng[i]? = some a) (vis : Vis sg a) (nd : (a == ("__debug__" : Str)) = false) (nc : (a == ("__classdict__" : Str)) = false) :
    PE ((cxOf CXg X.prog X.w X.K X.mg X.base Ng qg sg g cdg X.A X.stack s H Eg).tr pn xe) (.Call (.Name a p1) [] [] p2)
      (fun σZ HZ Q => σZ[i]? = some (some (.ref f)) ∧ HZ c' = some (CodeO c' (X.env.qual ++ "<lambda>")) ∧ tb (WE W σZ) σ HZ Q) := by
  constructor
  rintro pinsZ sZ σZ HZ Q IZ ⟨atf, code, wish⟩
  refine wpAny_Call_Name_kw (thn ((pe_var (pos := p1) (i := i) at_ vis nd nc).run pinsZ sZ σZ HZ (fun v H1 => v = .ref f ∧ H1 = HZ) IZ ⟨.ref f, atf, rfl, rfl⟩) ?_)
  rintro u s1 ⟨v, H1, I1, r1, rfl, rfl⟩
  obtain rfl : u = Value.ref f := r1
  have still := I1.base.keep f _ ob fr1 fr2 (by intro z; cases z)
  refine PySem.W.callWith_F0 ⟨_, _, _, _, still⟩ ?_
  have grown : Un (frs X.stack) [] H H1 s.heap s1.heap := I1.base
  obtain ⟨⟨oc, vs, t, co1, co2, co3⟩, _, _⟩ := I1.hok c' _ code
  have ran : codeAny (model X.prog X.w) (X.A.deeper (envOfC qg sg s.heap.objs.size g cdg)) (.call (.ref f) ⟨[], []⟩) (CR (L2.CX X.prog X.w) (envOfC qg sg s.heap.objs.size g cdg :: X.stack) X.prog X.w H1 s1 Q (WE W σZ)) s1 := by
    refine PySem.W.kla_callFunE room.r.depth still rfl L.co L.gen rfl ⟨c', oc, vs, t, rfl, co1, co2, co3⟩ ?_
    rw [bnd]
    refine wpAny_pure (wpAny_newFunctionEnv (fun y hy => (L.own y hy).2) (by intro y hy; cases hy) ?_ L.kind)
    intro h₁ hns more
    refine ⟨I1.nolimit.fresh _ more, ?_⟩
    show codeAny _ _ (.expr body (lamEnv X scope s1.heap.objs.size f c')) _ _
    have kept : ∀ b o, s1.heap.get? b = some o → h₁.get? b = some o := fun b o e => more.extBut b o (Nat.ne_of_lt (Heap.lt_size e)) (Heap.get?_push_of_some _ e)
    have J2 : Inv (lamCx X (X.A.deeper (envOfC qg sg s.heap.objs.size g cdg)) (envOfC qg sg s.heap.objs.size g cdg :: X.stack) s1 H1 (WE W σZ) scope f c') [] σ H1 { s1 with heap := h₁, toks := s1.toks + 0 } :=
      lam_start2 J L I1.env0 room.r.hd grown hns kept
    refine PySem.W.kla_codeExpr (wpAny_mono ((run _ _ s1 H1 (WE W σZ) ⟨room.r.deeper _, guards_deeper room.g⟩).run [] _ _ H1 Q J2 wish) ?_ fun e s' z => z)
    rintro v s' ⟨v', H', J', rv, q⟩
    exact ⟨v', H', J'.os, J'.bare, J'.base, J'.hok, rv, q⟩
  have pas := passAt tk σZ
  refine wpAny_call (codeAny_mono ran ?_)
  rintro (e | fl) s' z
  · exact pas pinsZ H1 s1 e s' I1 z
  · cases fl with
    | ret u => exact I1.after z
    | next => exact z
    | brk => exact z
    | cont => exact z
end
section
variable {X : Cx} {F : FP}
theorem codeO_kp {c : Addr} {q : Str} : Kp (CodeO c q) := fun ps => codeO_ne ps
/-- f(lambda: body), where f calls it and lets nothing out -/
theorem d_lam {x a : Str} {g c P : Addr} {k : Nat} {pg : Arguments} {bg : List Stmt} {sg : Scope} {fdg : FuncData} {Ng : List Str} {params : Arguments} {body : Expr} {scope : Scope} {Tl : TDE} {Tt : TDE → TDS} {p lpos pos : Pos}
    (hK : F.K = X.K) (glo : Gl X x) (hm : X.mg x = some (.ref g)) (hk : PySem.W.keepIn X.K (.ref g) = true) (Fg : FunD X.K x x pg bg sg [] [] g fdg) (bb : Binds X.K fdg [a] []) (Sg : FnScope Ng [a] sg) (at_ : Ng[0]? = some a) (vis : Vis sg a)
    (told : ∀ (cdv : Value) (s : Shared) (H : Hp) (F2 : FP) (Th : TDE), F2.K = X.K → F2.ex = (fun _ _ => False) → RoomG (k + 1) (X.A.deeper (envOfC x sg s.heap.objs.size g cdv)) →
      (∀ (W : WX) (pn : List (Addr × Obj)) (xe : Value → Shared → Prop) (F' : FP) (p1 p2 : Pos), Takes ((cxOf CX0 X.prog X.w X.K X.mg X.base Ng x sg g cdv X.A X.stack s H E0).tr pn xe) W → Sub F2 F' → WOk F' W →
        PE ((cxOf CX0 X.prog X.w X.K X.mg X.base Ng x sg g cdv X.A X.stack s H E0).tr pn xe) (.Call (.Name a p1) [] [] p2) (tD F' Th)) →
      PSs (cxOf CX0 X.prog X.w X.K X.mg X.base Ng x sg g cdv X.A X.stack s H E0).nox bg (sD F2 (Tt Th)))
    (TB : TabB X.base X.mg c P) (code : X.env.code = .ref c) (mem : (P, X.env.qual ++ "<lambda>") ∈ tabsOf X.K) (uni : ∀ p ∈ tabsOf X.K, p.1 = P → p.2 = X.env.qual ++ "<lambda>") (room : RoomG (k + 2) X.A) (L : LamS X.env.scope scope) (defs : defaultsOf params X.env = ([], []))
    (bnd : ∀ (q : Str) (cl : List (Str × Addr)) (pm cv ctv : Value), bindArgs (PySem.W.kla_fn "<lambda>" q params body scope cl pm cv ctv) ⟨[], []⟩ = pure [])
    (run : ∀ (A : Around) (outer : List Env) (s : Shared) (H : Hp) (E : XK) (f c' : Addr) (F' : FP), F'.K = X.K → WOk F' (fun c od _ H' => E c od H') → RoomG k (A.deeper (lamEnv X scope s.heap.objs.size f c')) → PE (lamCx X A outer s H E scope f c') body (tD F' Tl))
    (ndx : (x == ("__debug__" : Str)) = false := by decide) (nd : (a == ("__debug__" : Str)) = false := by decide) (nc : (a == ("__classdict__" : Str)) = false := by decide) :
    PE X (.Call (.Name x p) [.Lambda params body scope lpos] [] pos) (tD F (dLam Ng.length Tt Tl)) := by
  constructor
  rintro pins s σ H Q I ⟨N, env, Qd, fk, hT, kk⟩
  refine wpAny_Call_Name_kw (ld_glob I glo hm (PySem.W.callWith_K (h₀ := X.base) I.ok.mod.kin hk ?_ (by rfl) (by rfl)) ndx)
  show wpAny _ _ (spliced ((false, eval (.Lambda params body scope lpos) X.env) :: backTo pos (starEach [] X.env))) _ _ s
  have tabs : Tabs (tabsOf X.K) H := by
    have z := fk.n.deck.2
    rwa [fk.n.tb, hK] at z
  refine Calls.spliced_cons (lam_make2 I TB code mem uni tabs defs (L.has I.ok) ?_)
  intro f c' pm' ctv H1 s' I1 eN T1 ob fr1 fr2 hco
  refine Calls.spliced_nil ⟨I1.kIn, ?_⟩
  have e : Ext F.Z H H1 := ⟨fun q o _ kp h => eN q o h kp, fun dk => ⟨fun b l z => by
    obtain ⟨xs, m, n, h1, h2, h3⟩ := dk.1 b l z
    exact ⟨xs, m, n, eN _ _ h1 kp_dk, eN _ _ h2 kp_lst, h3⟩, by rw [fk.n.tb, hK]; exact T1⟩⟩
  have f1 := fk.ext' e
  obtain ⟨oc, od, dV, kV, doc, pm, an, cdv, ct, osl, efd, lk, hcd, _, _⟩ := Fg.ex
  subst efd
  have ran : codeAny (model X.prog X.w) X.A (.call (.ref g) ⟨[.ref f], []⟩) (CR CX0 X.stack X.prog X.w H1 s' Q E0) s' := by
    refine run_ofS (N := Ng) (ps := [a]) (us := [.ref f]) (vs := [.ref f]) lk hcd Sg room.r I1.env0 (bb s' [.ref f] I1.kIn rfl) (.cons rfl .nil) rfl fun r2 => ?_
    have room2 : RoomG (k + 1) (X.A.deeper (envOfC x sg s'.heap.objs.size g cdv)) := ⟨r2, guards_deeper room.g⟩
    refine ⟨_, (told cdv s' H1 ⟨F.K, F.Z, N, H1, fun _ _ => False, N, H1⟩ (dHole (.ref f) Tl env) hK rfl room2 ?_).nox, N, _, _, ⟨⟨f1.n.deck, .refl, fun _ z => z, f1.n.z, f1.n.all, fun _ h n => (n h).elim, .refl, f1.n.tb⟩, ?_, ?_, ?_⟩, hT (.ref f), ?_⟩
    · intro W pn xe F' p1 p2 tk sub wo
      have hk' : F'.K = X.K := sub.k.trans hK
      refine PE.imp (pe_hole (i := 0) (tb := fun E σ H Q => ∃ Fe : FP, (Fe.K = X.K ∧ WOk Fe (fun c od _ H' => E c od H')) ∧ tD Fe Tl σ H Q) I1 L ob fr1 fr2 (bnd _ _ _ _ _) room2 (fun A outer s H E r3 => PE.exP fun Fe => PE.andP fun z => run A outer s H E f c' Fe z.1 z.2 r3) tk at_ vis nd nc) ?_
      rintro σZ HZ Q2 ⟨N', env', Qd', f', ⟨h0, hl⟩, k'⟩
      refine ⟨f'.slot 0 _ h0, ?_, ⟨F'.K, F'.Z, N', HZ, fun x _ => F'.ex x env', N', HZ⟩, ⟨hk', ?_⟩, N', hide env, Qd', ⟨⟨f'.n.deck, .refl, fun _ z => z, f'.n.z, f'.n.all, fun _ h n => (n h).elim, .refl, f'.n.tb⟩, ?_, ?_, ?_⟩, hl, k'⟩
      · have z1 := f'.n.ext
        rw [sub.h, sub.z] at z1
        refine z1.keep c' _ ?_ codeO_kp hco
        rintro ⟨b, l, z, q⟩
        obtain ⟨xs, m, n, h1, h2, h3⟩ := f1.n.deck.1 b l z
        unfold CodeO at hco
        rcases q with q | q <;> rw [q] at hco
        · rw [h1] at hco; cases hco
        · rw [h2] at hco; cases hco
      · intro N3 σ3 H3 env3 y cl od f3 xr hx
        exact wo N' σZ H3 env' y cl od (f'.ext' f3.n.ext) (xr.less f3.n.sub) hx
      · rw [show (hide env).length = env.length from List.length_map _]
        exact fk.len
      · intro i sl hs
        rcases hide_get hs with rfl | ⟨h4, h5⟩
        · trivial
        · have z := f1.slot i sl h4
          have ev : Evo N H1 N' HZ := Evo.trans sub.g f'.n.gr
          cases sl with
          | un => trivial
          | own xs => exact (h5 xs rfl).elim
          | raw v => exact z
          | d y =>
            obtain ⟨v, z1, z2⟩ := z
            refine ⟨v, z1, ?_⟩
            show Rep F'.K F'.Z N' HZ y v
            rw [sub.k, sub.z]
            exact Rep.mono ev y v z2
      · intro i j q xs ys _ h4
        rcases hide_get h4 with z | ⟨_, z⟩
        · cases z
        · exact (z xs rfl).elim
    · obtain ⟨n, hn⟩ : ∃ n, Ng.length = n + 1 := ⟨Ng.length - 1, by have := (List.getElem?_eq_some_iff.mp at_).1; omega⟩
      simp [L2.start, hn]
    · intro i sl hs
      match i, hs with
      | 0, hs =>
        cases hs
        rfl
      | i + 1, hs =>
        have z : sl = .un := (List.mem_replicate.mp (List.mem_of_getElem? (show (List.replicate (Ng.length - 1) Slot.un)[i]? = some sl from hs))).2
        subst z
        trivial
    · intro i j q xs ys _ h4
      match i, h4 with
      | 0, h4 => cases h4
      | i + 1, h4 => cases (List.mem_replicate.mp (List.mem_of_getElem? (show (List.replicate (Ng.length - 1) Slot.un)[i]? = some (.own xs) from h4))).2
    · exact ⟨fun N' σ' H' env' f' _ q => kk _ _ _ (e.trans f'.n.ext) rep_non q, fun v H' d e' r' q => kk v H' d (e.trans e') r' q, fun _ _ _ _ _ _ q => q.elim, fun _ _ _ _ _ _ q => q.elim⟩
  refine wpAny_call (codeAny_mono ran ?_)
  rintro (er | fl) s2 z
  · exact (show False from z).elim
  · cases fl with
    | ret u => exact I1.after z
    | next => exact z
    | brk => exact z
    | cont => exact z
end
section
variable {P : Program} {w : World} {K : PySem.W.Frag} {mg : Str → Option Value} {base : Heap} {k : Nat} {f : Addr} {fd : FuncData} {N ps : List Str}
/-- a def that lets nothing out and makes lambdas: its code object is told -/
theorem fng_dataC {x qual n : Str} {params : Arguments} {body : List Stmt} {scope : Scope} {dvs : List V} {kws : List (Str × V)} {T : TDS} (Fd : FunD K x qual params body scope dvs kws f fd) (S : FnScope N ps scope) (ef : f = He.fAd K (n, none))
    (hb : ∀ (cdv : Value) (A : Around) (outer : List Env) (s : Shared) (H : Hp) (E : XK) (F : FP), F.K = K → F.ex = (fun _ _ => False) → RoomG k (A.deeper (envOfC qual scope s.heap.objs.size f cdv)) → cdv = .ref (He.cT K (n, none)).1 →
      PSs (cxOf CX0 P w K mg base N qual scope f cdv A outer s H E).nox body (sD F T)) : FnG P w K mg base CX0 (k + 1) f fd ps (spD K ps.length fun _ ds Q => tfOf N.length T (fun _ => False) ds Q) := by
  refine fng_ofC Fd S ?_ ?_
  · rintro vs H Q E ⟨Z, B, ds, Qd, Ed, b, r, hl, _⟩
    rw [← r.length, hl]
  rintro cdv A outer s H vs Q E room ⟨hcd, hcv⟩ ⟨Z, B, ds, Qd, Ed, b, r, hl, hT, hq, _⟩
  have key : cdv = .ref (He.cT K (n, none)).1 := by
    obtain ⟨c, rfl⟩ := He.codeIn_ref hcd
    obtain ⟨oc, od, dV, kV, doc, pm, an, cdv', ct, osl, efd, lk, _, _, _⟩ := Fd.ex
    subst ef
    rw [show (He.cT K (n, none)).1 = He.codeOf K (n, none) from rfl, He.codeOf_eq (p := (n, none)) lk hcv]
  refine ⟨_, (hb cdv A outer s H E ⟨K, Z, B, H, fun _ _ => False, B, H⟩ rfl rfl room key).nox, ?_⟩
  exact ⟨B, _, _, start_ok b r, hT, ⟨fun N' σ' H' env' f' _ q => hq _ _ _ f'.n.ext rep_non q, fun v H' d e r' q => hq v H' d e r' q, fun _ _ _ _ _ _ q => q.elim, fun _ _ _ _ _ _ q => q.elim⟩⟩
end
section
variable {X : Cx} {F : FP} {a e elt iter : Expr} {ifs : List Expr} {scope : Scope} {own : List (Str × Nat)} {pos p pos' spos py : Pos} {tg : Expr} {Ta : TDE} {Tas : TDA} {tt : TDT} {te : TDE} {i j : Nat} {y : Str}
theorem setLc_imp {T : TDE} {ta : TE} (h : ∀ σ H Q, tD F T σ H Q → ta σ H Q) : ∀ De σ H, sD F (dAsg T (dgName i)) De σ H → tAsg ta (gName i) De σ H := by
  rintro De σ H ⟨N, env, Dd, f, hT, ok⟩
  exact h _ _ _ ⟨N, env, _, f, hT, fun v H' d e1 r q => ok.nx _ _ _ _ ((f.ext' e1).set i r) (.of f.n e1) q⟩
/-- y = [.. for .. in range(n)], on one line, y no cell -/
theorem ds_setLcR (hK : F.K = X.K) (hc : X.calm = true) (hN : X.N.Nodup) (hgl : Gl X "range") (hm : X.mg "range" = none) (ha : PA X [a] (tDA F Tas)) (ok : BlkOk X.N X.env.scope scope own) (hv : own.map (·.2) = [j]) (hy : X.N[i]? = some y) (hyl : X.env.scope.names.lookup y = some .local)
    (hsw : swapsWith (.ListComp elt [⟨tg, .Call (.Name "range" p) [a] [] pos', ifs, 0⟩] scope pos) (some (.Name y py)) spos.line X.env = pure true)
    (hg : ∀ (s : Shared) (H : Hp) (C : Addr) (cl : List (Str × Addr)) (fp : List Addr), PG (X.blk s H scope (compEnvC scope cl C X.env) fp) tg (gName j)) (ht : ∀ (s : Shared) (H : Hp) (C : Addr) (cl : List (Str × Addr)) (fp : List Addr), PTs (X.blk s H scope (compEnvC scope cl C X.env) fp) ifs (tDT F.calm tt))
    (he : ∀ (s : Shared) (H : Hp) (C : Addr) (cl : List (Str × Addr)) (fp : List Addr), PE (X.blk s H scope (compEnvC scope cl C X.env) fp) elt (tD F.calm te)) (hsa : starEach [a] X.env = [(false, eval a X.env)] := by rfl) (hs : ∀ x, foldedSetIterable (.Call (.Name "range" p) [a] [] pos') X.env x = pure x := by intro _; rfl) :
    PS X (.Assign [.Name y py] (.ListComp elt [⟨tg, .Call (.Name "range" p) [a] [] pos', ifs, 0⟩] scope pos) spos) (sD F (dAsg (dLcR Tas j tt te) (dgName i))) := by
  have z := ps_setLc hc hN hy hyl hsw (pi_range1 hgl hm ha hsa) ok hg ht he hs
  rw [hv] at z
  exact PS.imp z (setLc_imp lcR_imp)
theorem ds_setLcL (hK : F.K = X.K) (hc : X.calm = true) (hN : X.N.Nodup) (hi : PE X iter (tD F Ta)) (ok : BlkOk X.N X.env.scope scope own) (hv : own.map (·.2) = [j]) (hy : X.N[i]? = some y) (hyl : X.env.scope.names.lookup y = some .local)
    (hsw : swapsWith (.ListComp elt [⟨tg, iter, ifs, 0⟩] scope pos) (some (.Name y py)) spos.line X.env = pure true)
    (hg : ∀ (s : Shared) (H : Hp) (C : Addr) (cl : List (Str × Addr)) (fp : List Addr), PG (X.blk s H scope (compEnvC scope cl C X.env) fp) tg (gName j)) (ht : ∀ (s : Shared) (H : Hp) (C : Addr) (cl : List (Str × Addr)) (fp : List Addr), PTs (X.blk s H scope (compEnvC scope cl C X.env) fp) ifs (tDT F.calm tt))
    (he : ∀ (s : Shared) (H : Hp) (C : Addr) (cl : List (Str × Addr)) (fp : List Addr), PE (X.blk s H scope (compEnvC scope cl C X.env) fp) elt (tD F.calm te)) (hs : ∀ x, foldedSetIterable iter X.env x = pure x := by intro _; rfl) :
    PS X (.Assign [.Name y py] (.ListComp elt [⟨tg, iter, ifs, 0⟩] scope pos) spos) (sD F (dAsg (dLc Ta j tt te) (dgName i))) := by
  have z := ps_setLc hc hN hy hyl hsw (pi_list hi) ok hg ht he hs
  rw [hv] at z
  exact PS.imp z (setLc_imp (by rw [← hK]; exact lc_imp))
theorem ds_setLcT (hK : F.K = X.K) (hc : X.calm = true) (hN : X.N.Nodup) (hi : PE X iter (tD F Ta)) (ok : BlkOk X.N X.env.scope scope own) (hv : own.map (·.2) = [j]) (hy : X.N[i]? = some y) (hyl : X.env.scope.names.lookup y = some .local)
    (hsw : swapsWith (.ListComp elt [⟨tg, iter, ifs, 0⟩] scope pos) (some (.Name y py)) spos.line X.env = pure true)
    (hg : ∀ (s : Shared) (H : Hp) (C : Addr) (cl : List (Str × Addr)) (fp : List Addr), PG (X.blk s H scope (compEnvC scope cl C X.env) fp) tg (gName j)) (ht : ∀ (s : Shared) (H : Hp) (C : Addr) (cl : List (Str × Addr)) (fp : List Addr), PTs (X.blk s H scope (compEnvC scope cl C X.env) fp) ifs (tDT F.calm tt))
    (he : ∀ (s : Shared) (H : Hp) (C : Addr) (cl : List (Str × Addr)) (fp : List Addr), PE (X.blk s H scope (compEnvC scope cl C X.env) fp) elt (tD F.calm te)) (hs : ∀ x, foldedSetIterable iter X.env x = pure x := by intro _; rfl) :
    PS X (.Assign [.Name y py] (.ListComp elt [⟨tg, iter, ifs, 0⟩] scope pos) spos) (sD F (dAsg (dLcT Ta j tt te) (dgName i))) := by
  have z := ps_setLc hc hN hy hyl hsw (pi_tup hi) ok hg ht he hs
  rw [hv] at z
  exact PS.imp z (setLc_imp (by rw [← hK]; exact lcT_imp))
end
end DL
set_option Elab.async false
set_option linter.all false
set_option maxRecDepth 100000
set_option maxHeartbeats 2000000
/-! is None; facts; the head with tables -/
namespace DL
open PySem PySem.Spec L2 LamX
open PyProof.Rows hiding St
section
variable {X : Cx} {F : FP} {a b : Expr} {Ta Tb : TDE} {pos : Pos}
def isNo : D → Bool
  | .non => true
  | _ => false
def gIsN : G2 := fun x y Q => match y with
  | .non => Q (.bl (isNo x))
  | _ => False
theorem isNo_rep {K : PySem.W.Frag} {Z : Zn} {N : Addr → Prop} {H : Hp} {d : D} {v : V} (r : Rep K Z N H d v) : decide (v = V.non) = isNo d := by
  cases d with
  | non => rw [show v = V.non from r]; rfl
  | bl b => rw [show v = V.bl b from r]; rfl
  | int b => rw [show v = V.int b from r]; rfl
  | str b => rw [show v = V.str b from r]; rfl
  | tup ds => obtain ⟨p, vs, rfl, _⟩ := r; rfl
  | lst ds => obtain ⟨p, vs, rfl, _⟩ := r; rfl
  | dct ks ds => obtain ⟨p, vs, rfl, _⟩ := r; rfl
  | deck => obtain ⟨p, l, _, rfl⟩ := r; rfl
  | ty n => rw [show v = V.ty n from r]; rfl
  | kt ds => obtain ⟨p, vs, o, rfl, _⟩ := r; rfl
theorem opd_isN : OpD F (fun x y H Q => y = .non ∧ Q (.bl (decide (x = .non))) H) gIsN := ⟨by
  intro N H x y dx dy Qd Q n rx ry h k
  unfold gIsN at h
  split at h
  · refine ⟨ry, ?_⟩
    rw [isNo_rep rx]
    exact k _ _ _ Ext.refl rep_bl h
  · exact h.elim⟩
theorem d_isn (ha : PE X a (tD F Ta)) (hb : PE X b (tD F Tb)) (hm : behindInMarks .Is b = false := by rfl) : PE X (.Compare a [.Is] [b] pos) (tD F (dBin gIsN Ta Tb)) := d_cmp op_isN opd_isN ha hb hm
theorem dt_isn (ha : PE X a (tD F Ta)) (hb : PE X b (tD F Tb)) (hm : behindInMarks .Is b = false := by rfl) : PT X (.Compare a [.Is] [b] pos) (tDT F (dTest (dBin gIsN Ta Tb))) := dt_cmp op_isN opd_isN ha hb hm
end
section
variable {X : Cx} {F : FP} {a : Expr} {Ta : TDE}
/-- an int or a bool as a test -/
def truI : D → Option Bool
  | .bl b => some b
  | .int i => some (i != 0)
  | _ => none
def dTruI (T : TDE) : TDT := fun ξ env Q => T ξ env fun d => match truI d with
  | some b => Q b
  | none => False
theorem dt_tru (ha : PE X a (tD F Ta)) (he : ∀ whole, isTrue a X.env whole = (do let v ← whole; standAt a.pos; holding [v] (truthy v)) := by intro _; rfl) : PT X a (tDT F (dTruI Ta)) := PT.imp (pt_truth ha he) (by
  rintro σ H Q ⟨N, env, Qd, f, hT, k⟩
  refine ⟨N, env, _, f, hT, fun v H1 d e1 r q => ?_⟩
  unfold truI at q
  cases d <;> first | exact q.elim | skip
  · rename_i b
    exact ⟨b, by rw [show v = V.bl b from r]; exact rfl, k _ _ e1 q⟩
  · rename_i i
    exact ⟨_, by rw [show v = V.int i from r]; exact rfl, k _ _ e1 q⟩)
end
/-! ### facts -/
def exisB (K : PySem.W.Frag) (n : Str) : Bool := match PySem.W.nsIn K mainGlobals n with
  | some (some (.ref C)) => xfB K C && (PySem.W.clsIn K C).isSome && decide (PySem.W.findIn K (.ref C) "__class__" = some (some (.builtin "object.__class__"))) && decide (PySem.W.specialIn K (.builtin "object.__class__") "__get__" = some (some (.builtin "getset_descriptor.__get__"))) &&
    decide (PySem.W.takesIn K (.builtin "object.__class__") = some true) && decide (PySem.W.mroIn K C (.type "object") = some true)
  | _ => false
theorem exis_ok {K : PySem.W.Frag} {n : Str} (c : exisB K n = true) : ∃ C, clsAt K n = .ref C ∧ ExIs K C := by
  unfold exisB at c
  split at c
  · rename_i C e
    simp only [Bool.and_eq_true, decide_eq_true_eq] at c
    obtain ⟨⟨⟨⟨⟨c1, c2⟩, c3⟩, c4⟩, c5⟩, c6⟩ := c
    exact ⟨C, by unfold clsAt; rw [e], xfB_ok c1, c2, c3, c4, c5, c6⟩
  · cases c
def refB (K : PySem.W.Frag) (n : Str) : Bool := match PySem.W.nsIn K mainGlobals n with
  | some (some (.ref _)) => true
  | _ => false
theorem ref_ok {K : PySem.W.Frag} {h : Heap} {mg : Str → Option Value} (X : K.In h) (G : h.Ns mainGlobals mg) {n : Str} (c : refB K n = true) : ∃ a, clsAt K n = .ref a ∧ mg n = some (.ref a) := by
  unfold refB at c
  split at c
  · rename_i a e
    exact ⟨a, by unfold clsAt; rw [e], PySem.W.mg_of X G e⟩
  · cases c
def initOf (s : Stmt) : Stmt := match s with
  | .ClassDef _ _ _ body _ _ _ _ _ _ _ => body.getD 0 s
  | s => s
theorem fng_false {P : Program} {w : World} {K : PySem.W.Frag} {mg : Str → Option Value} {base : Heap} {CX : CXT} {k : Nat} {f : Addr} {fd : FuncData} {ps : List Str} {m : Nat} : FnG P w K mg base CX k f fd ps (spD K m fun _ _ _ => False) :=
  ⟨fun _ _ _ _ ⟨_, _, _, _, _, _, _, _, h, _⟩ => h.elim, fun _ _ _ _ _ _ _ _ _ _ _ _ _ ⟨_, _, _, _, _, _, _, _, h, _⟩ => h.elim⟩
def kitB (K : PySem.W.Frag) (n m : Str) (b : Bool) : Bool := decide (PySem.W.kitOne K (clsAt K n) (clsAt K m) = some b)
/-- the names of the defs that make lambdas are TN -/
def tabNB (K : PySem.W.Frag) (TN : List Str) : Bool := decide (lamDefs.filter (hasDef K) = TN)
def tabP (K : PySem.W.Frag) (n : Str) : Addr := (He.cT K (n, none)).2
def tab1B (K : PySem.W.Frag) (n : Str) : Bool := decide ((tabP K n, lamQ n) ∈ tabsOf K) && (tabsOf K).all fun p => !decide (p.1 = tabP K n) || decide (p.2 = lamQ n)
structure TabF (K : PySem.W.Frag) (n : Str) : Prop where
  mem : (tabP K n, lamQ n) ∈ tabsOf K
  uni : ∀ p ∈ tabsOf K, p.1 = tabP K n → p.2 = lamQ n
theorem tab1_ok {K : PySem.W.Frag} {n : Str} (c : tab1B K n = true) : TabF K n := by
  unfold tab1B at c
  simp only [Bool.and_eq_true, decide_eq_true_eq, List.all_eq_true, Bool.or_eq_true, Bool.not_eq_true', decide_eq_false_iff_not] at c
  exact ⟨c.1, fun p hp e => (c.2 p hp).resolve_left fun z => z e⟩
abbrev TBs (K : PySem.W.Frag) (mg : Str → Option Value) (base : Heap) (TN : List Str) : Prop := ∀ n ∈ TN, TabB base mg (He.cT K (n, none)).1 (He.cT K (n, none)).2
/-! ### the head -/
section
variable {P : Program} {w : World} {K : PySem.W.Frag} {mg mb : Str → Option Value} {CX : CXT} {k : Nat} {fa a : Addr} {fd : FuncData} {x : Str} {sp : Sp} {s₁ : Shared} {vs : List Value} {ns : List Int}
def startT (K : PySem.W.Frag) (a : Addr) (vs : List Value) (ns : List Int) (ts : List Addr) : Hp := fun b => if b ∈ ts then some (.tbl #[]) else startH K a vs ns b
theorem startT_at {ts : List Addr} {b : Addr} {u : HO} (h : startT K a vs ns ts b = some u) : (b ∈ ts ∧ u = .tbl #[]) ∨ (K.lookup a = none ∧ b = a ∧ u = .frz { cls := .type "list", data := .seq vs.toArray } (.lst (ns.map V.int))) := by
  unfold startT at h
  split at h
  · rename_i hb
    exact .inl ⟨hb, (Option.some.inj h).symm⟩
  · exact .inr (startH_at h)
theorem law_callT {cs : List (Addr × Addr)} (KX : K.In s₁.heap) (hns : s₁.heap.Ns mainGlobals mg) (hb : s₁.heap.Ns builtinsNs mb) (hbb : ∀ x : Str, x ≠ "__name__" → mb x = bootBuiltins x) (hlim : s₁.heap.NoLimit) (hg : s₁.gens = #[])
    (eT : ∀ p ∈ cs, s₁.heap.get? p.2 = some { cls := .none, data := .fields #[] }) (oT : ∀ p ∈ cs, K.lookup p.2 = none) (cT : ∀ p ∈ cs, PySem.W.CodeHd s₁.heap p.1 p.2)
    (bmain : ∃ (bm : Addr) (ob : Obj), mg "__builtins__" = some (.ref bm) ∧ bm ≠ builtinsNs ∧ s₁.heap.get? bm = some ob ∧ ob.cls = .type "module" ∧ ob.dict = some builtinsNs ∧ ob.data = .plain)
    (ha : s₁.heap.get? a = some { cls := .type "list", data := .seq vs.toArray }) (hi : IntsAre vs ns) (hl : ns.length ≤ sizeLine) (hr : RoomG k callerA)
    (F : ∀ base : Heap, K.In base → base.Ns mainGlobals mg → (∀ p ∈ cs, TabB base mg p.1 p.2) → FnG P w K mg base CX k fa fd [x] sp) (hbind : ∀ (s : Shared) (u : Value), BindsTo s fd ⟨[u], []⟩ [(x, u)])
    (hsp : ∀ H : Hp, (∀ p ∈ cs, H p.2 = some (.tbl #[])) → SqL K H a (ns.map V.int) → sp [.ref a] H (fun v _ => v = .bl true) fun _ _ _ => False) (hCX : ∀ H e s', CX [] H s₁ (fun _ _ _ => False) e s' → False) :
    codeAny (model P w) callerA (.call (.ref fa) ⟨[.ref a], []⟩) (fun r s' => r = .ok (.ret (.bool true)) ∧ OldK s₁.heap s'.heap ∧ s'.os = s₁.os ∧ AllBare s'.gens) s₁ := by
  have rel := vals_ints hi
  have hlen : ns.length = vs.length := hi.length.symm
  have memT : ∀ p ∈ cs, p.2 ∈ cs.map Prod.snd := fun p hp => List.mem_map_of_mem hp
  have tabAt : ∀ b ∈ cs.map Prod.snd, s₁.heap.get? b = some { cls := .none, data := .fields #[] } := by
    intro b hb
    obtain ⟨p, hp, rfl⟩ := List.mem_map.mp hb
    exact eT p hp
  have notT : a ∉ cs.map Prod.snd := by
    intro z
    have e := tabAt a z
    rw [ha] at e
    injection e with e
    injection e with _ _ e _
    cases e
  generalize eH : startT K a vs ns (cs.map Prod.snd) = H
  have at_ : ∀ {b : Addr} {u : HO}, H b = some u → (b ∈ cs.map Prod.snd ∧ u = .tbl #[]) ∨ (K.lookup a = none ∧ b = a ∧ u = .frz { cls := .type "list", data := .seq vs.toArray } (.lst (ns.map V.int))) := fun {b u} h => startT_at (by rw [eH]; exact h)
  have free : ∀ {b : Addr}, b ≠ a → b ∉ cs.map Prod.snd → H b = none := fun {b} h h2 => by
    cases q : H b with
    | none => rfl
    | some u =>
      rcases at_ q with z | z
      · exact absurd z.1 h2
      · exact absurd z.2.1 h
  have tabH : ∀ p ∈ cs, H p.2 = some (.tbl #[]) := fun p hp => by
    rw [← eH]
    exact if_pos (memT p hp)
  have held : HOk P w H s₁.heap := fun b u e => by
    rcases at_ e with ⟨z, rfl⟩ | ⟨_, rfl, rfl⟩
    · exact tabAt b z
    · exact ⟨ha, by rw [List.length_map]; exact hl, vs, _, rel, ha⟩
  have script : SqL K H a (ns.map V.int) := by
    cases q : K.lookup a with
    | none =>
      refine .inl (.inr ⟨{ cls := .type "list", data := .seq vs.toArray }, ?_⟩)
      rw [← eH]
      unfold startT startH
      rw [if_neg notT, q]
      exact if_pos rfl
    | some o =>
      have e := KX a o q
      rw [ha] at e
      cases e
      exact .inr ⟨_, vs.toArray, _, q, rfl, rfl, rfl, by rw [List.size_toArray, ← hlen]; exact hl, by simpa using rel⟩
  have plainB : ∀ {b : Addr} {o : Obj}, s₁.heap.get? b = some o → (∀ (us : Array Value) (m : Nat), o.data ≠ .seq us m) → o.data ≠ .fields #[] → H b = none := fun {b o} e h1 h2 => free (fun z => by
    subst z
    rw [ha] at e
    cases e
    exact h1 _ _ rfl) fun z => by
    rw [tabAt b z] at e
    cases e
    exact h2 rfl
  have ns' : ∀ {b : Addr} {m : Str → Option Value}, s₁.heap.Ns b m → (hidT s₁.heap H).Ns b m := fun {b m} ⟨o, es, ep, e, d, r⟩ => ⟨o, es, ep, hidT_get e (plainB e (by intro _ _ z; rw [d] at z; cases z) (by intro z; rw [d] at z; cases z)), d, r⟩
  have inK : K.In (hidT s₁.heap H) := fun b o e => hidT_get (KX b o e) (by
    cases q : H b with
    | none => rfl
    | some u =>
      rcases at_ q with ⟨h1, _⟩ | ⟨h1, h2, _⟩
      · obtain ⟨p, hp, rfl⟩ := List.mem_map.mp h1
        rw [oT p hp] at e
        cases e
      · rw [h2, h1] at e
        cases e)
  have tabs : ∀ p ∈ cs, TabB (hidT s₁.heap H) mg p.1 p.2 := by
    intro p hp
    have hT := eT p hp
    have gP : mainGlobals ≠ p.2 := by
      obtain ⟨o, es, ep, e, d, _⟩ := hns
      intro z
      rw [z, hT] at e
      cases e
      cases d
    refine ⟨?_, ?_, gP⟩
    · obtain ⟨o, us, file, tf, flags, tg, inF, text, tt, e1, r1, r2, r3, rest⟩ := cT p hp
      refine ⟨o, us, file, tf, flags, tg, inF, text, tt, hidT_get e1 (plainB e1 ?_ ?_), r1, r2, r3, rest⟩
      · intro _ _ z; rw [r2] at z; cases z
      · intro z
        rw [r2] at z
        cases z
        simp at r3
    · obtain ⟨bm, ob, b1, b2, b3, b4, b5, b6⟩ := bmain
      refine ⟨bm, ob, b1, b2, ?_, ?_, hidT_get b3 (plainB b3 ?_ ?_), b4, b5, b6⟩
      · obtain ⟨o, es, ep, e, d, _⟩ := hns
        intro z
        rw [z, e] at b3
        cases b3
        rw [d] at b6
        cases b6
      · intro z
        rw [z, hT] at b3
        cases b3
        cases b6
      · intro _ _ z; rw [b6] at z; cases z
      · intro z; rw [b6] at z; cases z
  obtain ⟨mc, l1, l2⟩ := hlim
  have e0 : Env0 P w K mg (hidT s₁.heap H) callerA [] s₁ H :=
    ⟨rfl, ⟨inK, ns' hns, ⟨mb, ns' hb, hbb⟩, mc, ns' l1, l2⟩, fun b o e => of_hidT e, Nat.le_of_eq (hidT_size _ _), trivial, (fun b h => by cases h), held, .of_eq hg⟩
  refine codeAny_mono ((F _ inK (ns' hns) tabs).run callerA [] s₁ H ⟨[.ref a], []⟩ [.ref a] [.ref a] _ _ hr e0 (hbind s₁ (.ref a)) (.cons rfl .nil) (hsp H tabH script)) ?_
  rintro (e | fl) s' h
  · exact (hCX H e s' h).elim
  cases fl with
  | next => cases h
  | brk => cases h
  | cont => cases h
  | ret u =>
    obtain ⟨v, H', os, bare, un, hok', r', q⟩ := h
    have q' : v = .bl true := q
    subst q'
    obtain rfl : u = Value.bool true := r'
    have same : ∀ b o, b ∉ cs.map Prod.snd → s₁.heap.get? b = some o → s'.heap.get? b = some o := by
      intro b o nb e
      cases q : H b with
      | none => exact un.keep b o e q (by intro z; cases z) (by intro z; cases z)
      | some u =>
        rcases at_ q with z | ⟨_, rfl, rfl⟩
        · exact absurd z.1 nb
        · obtain ⟨e2, _⟩ := hok' b _ (un.frzs b _ _ q)
          rw [ha] at e
          cases e
          exact e2
    have wider : ∀ p ∈ cs, ∃ more : Array Value, s'.heap.get? p.2 = some { cls := .none, data := .fields more } := by
      intro p hp
      obtain ⟨more, z⟩ := un.tbls p.2 #[] (tabH p hp)
      exact ⟨_, hok' p.2 _ z⟩
    refine ⟨rfl, ⟨?_, ?_⟩, os, bare⟩
    · intro b o e
      by_cases nb : b ∈ cs.map Prod.snd
      · obtain ⟨p, hp, rfl⟩ := List.mem_map.mp nb
        obtain ⟨more, z⟩ := wider p hp
        rw [eT p hp] at e
        cases e
        exact .inr (.inl ⟨((cT p hp).tab (eT p hp)).isCodeTable, rfl, #[], more, rfl, by rw [Array.empty_append]; exact z⟩)
      · exact .inl (same b o nb e)
    · intro b o e
      by_cases nb : b ∈ cs.map Prod.snd
      · obtain ⟨p, hp, rfl⟩ := List.mem_map.mp nb
        obtain ⟨more, z⟩ := wider p hp
        exact ⟨_, z⟩
      · exact ⟨o, same b o nb e⟩
end
theorem walk_ofT {l : PySem.W.OpenLaw} {n k : Nat} {q : Program} {loose : List Str} {XP : (Str → Option Value) → Heap → Prop} {YP : World → Heap → Prop} {d : DefRec} {x : Str}
    (hn : l.most = some n) (hn2 : n ≤ sizeLine) (hdf : d.params.defaults = []) (hr : RoomG k callerA)
    (F : ∀ (w : World) (mg : Str → Option Value) (fa : Addr) (h : Heap), YP w h → h.Ns mainGlobals mg → mg d.name = some (.ref fa) →
      ∃ (K : PySem.W.Frag) (fd : FuncData) (cs : List (Addr × Addr)) (sp : Sp), K.In h ∧ ((∀ p ∈ cs, h.get? p.2 = some { cls := .none, data := .fields #[] }) ∧ (∀ p ∈ cs, K.lookup p.2 = none) ∧ ∀ p ∈ cs, PySem.W.CodeHd h p.1 p.2) ∧ (∀ (s : Shared) (u : Value), BindsTo s fd ⟨[u], []⟩ [(x, u)]) ∧
        (∀ (H : Hp) (a : Addr) (ns : List Int), ns.length ≤ n → (∀ p ∈ cs, H p.2 = some (.tbl #[])) → SqL K H a (ns.map V.int) → sp [.ref a] H (fun v _ => v = .bl true) fun _ _ _ => False) ∧
        ∀ base : Heap, K.In base → base.Ns mainGlobals mg → (∀ p ∈ cs, TabB base mg p.1 p.2) → FnG l.prog w K mg base CX0 k fa fd [x] sp) :
    PySem.W.WalkO q loose XP YP l.row.toRowW d [] (fun f vs => PySem.call f vs) :=
  Att.attach_callB hn hdf fun w s₀ s₁ mg mb fa o pm cd doc a vs ns G Y ho hd hcd hmg hobj hints hlen _ hg =>
    let ⟨_, _, _, _, KX, hT, hb, hsp, hF⟩ := F w mg fa _ Y G.T.g hmg
    law_callT KX G.T.g G.T.b G.T.builtins G.T.nolimit hg hT.1 hT.2.1 hT.2.2 G.T.bmain hobj hints (Nat.le_trans hlen hn2) hr hF hb (fun H hH hS => hsp H a ns hlen hH hS) fun _ _ _ z => z
def obsF (n : Nat) (fa : List He.Fa) (fn : List He.DefD) (TN : List Str) (ex : PySem.W.Frag → Bool) (g : Addr → Option Obj) : He.AlD × Bool :=
  (He.obsD fa fn (He.frT g (He.asD g n ++ [cStatics, sysModules])), ex (He.frT g (He.asD g n ++ [cStatics, sysModules])) && He.tabsB g (TN.map fun n => (n, none)) (He.frT g (He.asD g n ++ [cStatics, sysModules])))
structure SaysF (fa : List He.Fa) (fn : List He.DefD) (TN : List Str) (ex : PySem.W.Frag → Bool) (h : Heap) (K : PySem.W.Frag) : Prop where
  d : He.SaysD fa fn K
  ex : ex K = true
  hd : ∀ n ∈ TN, PySem.W.codeHdIn K (He.cT K (n, none)).1 (He.cT K (n, none)).2 = true
  out : ∀ n ∈ TN, K.lookup (He.cT K (n, none)).2 = none
  emp : ∀ n ∈ TN, h.get? (He.cT K (n, none)).2 = some { cls := .none, data := .fields #[] }
theorem saysF_of {n : Nat} {fa : List He.Fa} {fn : List He.DefD} {TN : List Str} {ex : PySem.W.Frag → Bool} {h : Heap} (e : obsF n fa fn TN ex h.get? = (He.valD fn, true)) : SaysF fa fn TN ex h (He.frT h.get? (He.asD h.get? n ++ [cStatics, sysModules])) := by
  have e1 := congrArg (fun z : He.AlD × Bool => z.1) e
  have e2 := congrArg (fun z : He.AlD × Bool => z.2) e
  unfold obsF at e1 e2
  dsimp only at e1 e2
  obtain ⟨x1, x2⟩ := Bool.and_eq_true_iff.mp e2
  have all : ∀ m ∈ TN, PySem.W.codeHdIn (He.frT h.get? (He.asD h.get? n ++ [cStatics, sysModules])) (He.cT (He.frT h.get? (He.asD h.get? n ++ [cStatics, sysModules])) (m, none)).1 (He.cT (He.frT h.get? (He.asD h.get? n ++ [cStatics, sysModules])) (m, none)).2 = true ∧
      ∃ o, h.get? (He.cT (He.frT h.get? (He.asD h.get? n ++ [cStatics, sysModules])) (m, none)).2 = some o ∧ He.emptyTab o = true := by
    intro m hm
    unfold He.tabsB at x2
    obtain ⟨y1, y2⟩ := Bool.and_eq_true_iff.mp (List.all_eq_true.mp x2 (m, none) (List.mem_map.mpr ⟨m, hm, rfl⟩))
    refine ⟨y1, ?_⟩
    split at y2
    · rename_i o z
      exact ⟨o, z, y2⟩
    · cases y2
  exact ⟨e1, x1, fun m hm => (all m hm).1, fun m hm => let ⟨_, _, z, q⟩ := all m hm; He.frT_none z q, fun m hm => by
    obtain ⟨_, o, z, q⟩ := all m hm
    rw [z, He.emptyTab_eq q]⟩
def hookF (n : Nat) (fa : List He.Fa) (fn : List He.DefD) (TN : List Str) (ex : PySem.W.Frag → Bool) : PySem.W.Hook where
  α := He.AlD × Bool
  obs := fun s => obsF n fa fn TN ex s.heap.get?
  val := fun _ => (He.valD fn, true)
  says := fun _ h => ∃ K : PySem.W.Frag, K.In h ∧ SaysF fa fn TN ex h K
  of := fun _ _ e => ⟨_, He.frT_in, saysF_of e⟩
  keeps := fun _ _ _ ⟨K, hK, c⟩ k => ⟨K, PySem.W.Frag.In.keeps hK k, ⟨c.d, c.ex, c.hd, c.out, fun p hp => k _ _ (c.emp p hp)⟩⟩
theorem obsF_eq {n : Nat} {fa : List He.Fa} {fn : List He.DefD} {TN : List Str} {ex : PySem.W.Frag → Bool} {g : Addr → Option Obj} {s : Shared} (h : ∀ a, g a = s.heap.get? a) : obsF n fa fn TN ex g = (hookF n fa fn TN ex).obs s := by
  have e : g = s.heap.get? := funext h
  subst e
  rfl
theorem cs_ok {fa : List He.Fa} {fn : List He.DefD} {TN : List Str} {ex : PySem.W.Frag → Bool} {h : Heap} {K : PySem.W.Frag} (KX : K.In h) (c : SaysF fa fn TN ex h K) :
    (∀ p ∈ TN.map (fun n => He.cT K (n, none)), h.get? p.2 = some { cls := .none, data := .fields #[] }) ∧ (∀ p ∈ TN.map (fun n => He.cT K (n, none)), K.lookup p.2 = none) ∧ ∀ p ∈ TN.map (fun n => He.cT K (n, none)), PySem.W.CodeHd h p.1 p.2 := by
  refine ⟨?_, ?_, ?_⟩ <;> intro p hp <;> obtain ⟨n, hn, rfl⟩ := List.mem_map.mp hp
  · exact c.emp n hn
  · exact c.out n hn
  · exact PySem.W.codeHd_of_K KX (c.hd n hn)
theorem tbs_of {K : PySem.W.Frag} {mg : Str → Option Value} {base : Heap} {TN : List Str} (h : ∀ p ∈ TN.map (fun n => He.cT K (n, none)), TabB base mg p.1 p.2) : TBs K mg base TN := fun n hn => h _ (List.mem_map.mpr ⟨n, hn, rfl⟩)
/-- the tables at the start are tables -/
theorem tabs_start {K : PySem.W.Frag} {TN : List Str} {H : Hp} (c : tabNB K TN = true) (h : ∀ p ∈ TN.map (fun n => He.cT K (n, none)), H p.2 = some (.tbl #[])) : Tabs (tabsOf K) H := by
  intro p hp
  unfold tabsOf at hp
  rw [of_decide_eq_true c] at hp
  obtain ⟨n, hn, rfl⟩ := List.mem_map.mp hp
  exact TabS.nil (h _ (List.mem_map.mpr ⟨n, hn, rfl⟩))
end DL
set_option Elab.async false
set_option linter.all false
set_option maxRecDepth 100000
set_option maxHeartbeats 2000000
/-! a list of the def's own, made by a comprehension on one line -/
namespace DL
open PySem PySem.Spec L2
open PyProof.Rows hiding St
section
variable {X : Cx} {F : FP} {a e elt iter : Expr} {ifs : List Expr} {scope : Scope} {own : List (Str × Nat)} {pos p pos' spos py : Pos} {tg : Expr} {Ta : TDE} {Tas : TDA} {tt : TDT} {te : TDE} {i j : Nat} {y : Str}
theorem ownLc_imp {T : TDL} {ta : TE} (h : ∀ σ H Q, tDL F T σ H Q → ta σ H Q) : ∀ De σ H, sD F (dOwn T i) De σ H → tAsg ta (gName i) De σ H := by
  rintro De σ H ⟨N, env, Dd, f, hT, ok⟩
  exact h _ _ _ ⟨N, env, _, f, hT, fun q vs H' ds n w => ok.nx _ _ _ _ (n.own i) (n.evo f.n) w⟩
theorem ds_ownLcR (hK : F.K = X.K) (hc : X.calm = true) (hN : X.N.Nodup) (hgl : Gl X "range") (hm : X.mg "range" = none) (ha : PA X [a] (tDA F Tas)) (ok : BlkOk X.N X.env.scope scope own) (hv : own.map (·.2) = [j]) (hy : X.N[i]? = some y) (hyl : X.env.scope.names.lookup y = some .local)
    (hsw : swapsWith (.ListComp elt [⟨tg, .Call (.Name "range" p) [a] [] pos', ifs, 0⟩] scope pos) (some (.Name y py)) spos.line X.env = pure true)
    (hg : ∀ (s : Shared) (H : Hp) (C : Addr) (cl : List (Str × Addr)) (fp : List Addr), PG (X.blk s H scope (compEnvC scope cl C X.env) fp) tg (gName j)) (ht : ∀ (s : Shared) (H : Hp) (C : Addr) (cl : List (Str × Addr)) (fp : List Addr), PTs (X.blk s H scope (compEnvC scope cl C X.env) fp) ifs (tDT F.calm tt))
    (he : ∀ (s : Shared) (H : Hp) (C : Addr) (cl : List (Str × Addr)) (fp : List Addr), PE (X.blk s H scope (compEnvC scope cl C X.env) fp) elt (tD F.calm te)) (hsa : starEach [a] X.env = [(false, eval a X.env)] := by rfl) (hs : ∀ x, foldedSetIterable (.Call (.Name "range" p) [a] [] pos') X.env x = pure x := by intro _; rfl) :
    PS X (.Assign [.Name y py] (.ListComp elt [⟨tg, .Call (.Name "range" p) [a] [] pos', ifs, 0⟩] scope pos) spos) (sD F (dOwn (lLcR Tas j tt te) i)) := by
  have z := ps_setLc hc hN hy hyl hsw (pi_range1 hgl hm ha hsa) ok hg ht he hs
  rw [hv] at z
  exact PS.imp z (ownLc_imp lcR_impL)
theorem ds_ownLcL (hK : F.K = X.K) (hc : X.calm = true) (hN : X.N.Nodup) (hi : PE X iter (tD F Ta)) (ok : BlkOk X.N X.env.scope scope own) (hv : own.map (·.2) = [j]) (hy : X.N[i]? = some y) (hyl : X.env.scope.names.lookup y = some .local)
    (hsw : swapsWith (.ListComp elt [⟨tg, iter, ifs, 0⟩] scope pos) (some (.Name y py)) spos.line X.env = pure true)
    (hg : ∀ (s : Shared) (H : Hp) (C : Addr) (cl : List (Str × Addr)) (fp : List Addr), PG (X.blk s H scope (compEnvC scope cl C X.env) fp) tg (gName j)) (ht : ∀ (s : Shared) (H : Hp) (C : Addr) (cl : List (Str × Addr)) (fp : List Addr), PTs (X.blk s H scope (compEnvC scope cl C X.env) fp) ifs (tDT F.calm tt))
    (he : ∀ (s : Shared) (H : Hp) (C : Addr) (cl : List (Str × Addr)) (fp : List Addr), PE (X.blk s H scope (compEnvC scope cl C X.env) fp) elt (tD F.calm te)) (hs : ∀ x, foldedSetIterable iter X.env x = pure x := by intro _; rfl) :
    PS X (.Assign [.Name y py] (.ListComp elt [⟨tg, iter, ifs, 0⟩] scope pos) spos) (sD F (dOwn (lLc Ta j tt te) i)) := by
  have z := ps_setLc hc hN hy hyl hsw (pi_list hi) ok hg ht he hs
  rw [hv] at z
  exact PS.imp z (ownLc_imp (by rw [← hK]; exact lc_impL))
end
/-! ### [e for x, y in zip(a, b)], a and b tuples of one length -/
def zipD : List D → List D → List D
  | x :: xs, y :: ys => .tup [x, y] :: zipD xs ys
  | _, _ => []
theorem zipD_len : ∀ {xs ys : List D}, xs.length = ys.length → (zipD xs ys).length = xs.length
  | [], [], _ => rfl
  | _ :: xs, _ :: ys, h => by
    show (zipD xs ys).length + 1 = xs.length + 1
    rw [zipD_len (by simpa using h)]
  | [], _ :: _, h => by cases h
  | _ :: _, [], h => by cases h
theorem zipD_get : ∀ {xs ys : List D} {i : Nat} {x y : D}, xs[i]? = some x → ys[i]? = some y → (zipD xs ys)[i]? = some (.tup [x, y])
  | x :: xs, y :: ys, 0, _, _, h1, h2 => by cases h1; cases h2; rfl
  | x :: xs, y :: ys, i + 1, _, _, h1, h2 => by
    show (zipD xs ys)[i]? = _
    exact zipD_get (by simpa using h1) (by simpa using h2)
  | [], _, _, _, _, h1, _ => by simp at h1
  | _ :: _, [], _, _, _, _, h2 => by simp at h2
abbrev gZ (j l : Nat) : TDG := dgTup 2 (dgCons (dgName j) (dgCons (dgName l) dgNil))
abbrev rZ (K : PySem.W.Frag) (j l : Nat) : TG := gTup K 2 (gCons (gName j) (gCons (gName l) gNil))
section
variable {X : Cx} {F : FP} {Ta : TDE} {Tas : TDA} {N : Addr → Prop} {σ : L2.St} {H1 H' : Hp} {env : SE} {A : Addr} {tt : TDT} {te : TDE} {all : List D} {Qd : D → Prop} {j l : Nat}
theorem wipe2 {x y : Option V} (hjl : j ≠ l) : L2.wipe (((L2.wipe σ [j, l]).set j x).set l y) [j, l] = L2.wipe σ [j, l] := by
  show ((((((σ.set l none).set j none).set j x).set l y).set l none).set j none) = (σ.set l none).set j none
  refine List.ext_getElem? fun k => ?_
  simp only [List.getElem?_set, List.length_set]
  by_cases e1 : j = k <;> by_cases e2 : l = k <;> simp [e1, e2]
theorem lc_turnZ (f : FOk F N σ H1 env) (hA : H1 A = none) (hjl : j ≠ l) (hz : all.length ≤ sizeLine) {i : Nat} {dx dy : D} {x y : V} {T : Addr} (hd : all[i]? = some (.tup [dx, dy])) (rx : Rep F.K F.Z N H1 dx x) (rye : Rep F.K F.Z N H1 dy y) (L : LcAt F N H1 A (gZ j l) tt te (wipeD env [j, l]) all Qd i H') (hT : H' T = none) :
    rZ F.K j l (.ref T) (L2.wipe σ [j, l]) (upd H' T (.tup [x, y])) fun σ2 H2 => L2.wipe σ2 [j, l] = L2.wipe σ [j, l] ∧ tDT F.calm tt σ2 H2 fun b H3 =>
      if b = true then tD F.calm te σ2 H3 fun y H4 => ∃ acc, H4 A = some (.lst acc) ∧ acc.length < sizeLine ∧ LcAt F N H1 A (gZ j l) tt te (wipeD env [j, l]) all Qd (i + 1) (upd H4 A (.lst (acc ++ [y]))) else LcAt F N H1 A (gZ j l) tt te (wipeD env [j, l]) all Qd (i + 1) H3 := by
  obtain ⟨ext, acc, ds, h1, h2, h3, h4⟩ := L
  obtain ⟨hi, e⟩ := List.getElem?_eq_some_iff.mp hd
  rw [List.drop_eq_getElem_cons hi, e] at h4
  obtain ⟨_, h4⟩ := h4
  have f0 : FOk F (fun q => N q ∨ q = A) (L2.wipe σ [j, l]) H' (wipeD env [j, l]) := (f.with' kp_lst hA ext h1).wipe [j, l]
  have lT : Ext F.Z H' (upd H' T (.tup [x, y])) := f0.n.lay hT
  have f1 := f0.ext' lT
  have xT := ext.trans lT
  have hAT : upd H' T (.tup [x, y]) A = some (.lst acc) := by rw [upd_ne (ne_of_none h1 hT)]; exact h1
  have mv : ∀ r u, ¬ N r → Kp u → H1 r = some u → upd H' T (.tup [x, y]) r = some u ∧ ¬ (N r ∨ r = A) := fun r u n k h => ⟨xT.keep r u (fun z => n (f.n.z r z)) k h, fun z => z.elim n (ne_of_none h hA)⟩
  have r1 : Rep F.K F.Z (fun q => N q ∨ q = A) (upd H' T (.tup [x, y])) dx x := Rep.mono mv dx x rx
  have r2 : Rep F.K F.Z (fun q => N q ∨ q = A) (upd H' T (.tup [x, y])) dy y := Rep.mono mv dy y rye
  have nz : ∀ p, InZ F.Z p → p ≠ A := fun p z e => by
    obtain ⟨o, q, _⟩ := f.n.all p (f.n.z p z)
    rw [e, hA] at q; cases q
  refine ⟨T, [x, y], rfl, sqt_of (N := fun _ => False) (.inl ⟨fun z => z, upd_same⟩), rfl, x, [y], rfl, y, [], rfl, rfl, ?_⟩
  refine ⟨wipe2 hjl, ?_⟩
  refine ⟨_, _, _, (((f1.set j r1).set l r2)).wish _, h4, fun b H3 e3 q3 => ?_⟩
  have x3 := xT.trans e3
  have a3 : H3 A = some (.lst acc) := e3.keep A _ (fun z => nz A z rfl) kp_lst hAT
  have f3 := f1.ext' e3
  by_cases hb : b = true
  · subst hb
    rw [if_pos rfl] at q3
    refine iteT ?_
    refine ⟨_, _, _, (((f1.set j r1).set l r2).ext' e3).wish _, q3, fun y H4 dy e4 ry q4 => ?_⟩
    have a4 : H4 A = some (.lst acc) := e4.keep A _ (fun z => nz A z rfl) kp_lst a3
    have x4 := x3.trans e4
    refine ⟨acc, a4, by omega, ⟨fun p o n k h => ?_, fun dk => ?_⟩, acc ++ [y], ds ++ [dy], upd_same, by simp; omega, ?_, ?_⟩
    · rw [upd_ne (ne_of_none h hA)]
      exact x4.keep p o n k h
    · refine ⟨fun a l ez => ?_, fun p hp => ?_⟩
      · obtain ⟨xs, m, c, k1, k2, k3⟩ := (x4.deck dk).1 a l ez
        exact ⟨xs, m, c, by rw [upd_ne (nz a ⟨a, l, ez, .inl rfl⟩)]; exact k1, by rw [upd_ne (nz l ⟨a, l, ez, .inr rfl⟩)]; exact k2, k3⟩
      · exact tab_upd a4 kp_lst (fun _ h => by cases h) ((x4.deck dk).2 p hp)
    · have mv4 : ∀ r u, ¬ (N r ∨ r = A) → Kp u → H4 r = some u → upd H4 A (.lst (acc ++ [y])) r = some u ∧ ¬ (N r ∨ r = A) := fun r u n _ h => ⟨by rw [upd_ne (fun z => n (.inr z))]; exact h, n⟩
      have h4' : Reps F.K F.Z (fun q => N q ∨ q = A) H4 ds acc := ((h3.ext lT f0.n.z).ext e3 f1.n.z).ext e4 f1.n.z
      exact (Reps.mono mv4 _ _ h4').snoc (Rep.mono mv4 _ _ ry)
    · have : (fun ys => Qd (.lst (ds ++ [dy] ++ ys))) = fun ys => Qd (.lst (ds ++ dy :: ys)) := by
        funext ys; rw [List.append_assoc]; rfl
      rw [this]
      exact q4
  · rw [Bool.not_eq_true] at hb
    subst hb
    rw [if_neg Bool.false_ne_true] at q3
    refine iteF ?_
    exact ⟨x3, acc, ds, a3, by omega, (h3.ext lT f0.n.z).ext e3 f1.n.z, q3⟩
theorem lc_endZ {env0 : SE} (f : FOk F N σ H1 env) (hA : H1 A = none) {G : TDG} {H0 : Hp} {Q : VK} (e : Ext F.Z H0 H1) (k : ∀ v H' d, Ext F.Z H0 H' → Rep F.K F.Z N H' d v → Qd d → Q v H') {n : Nat} (hn : all.length = n) (L : LcAt F N H1 A G tt te env0 all Qd n H') : Q (.ref A) H' := by
  obtain ⟨ext, acc, ds, h1, h2, h3, h4⟩ := L
  rw [← hn, List.drop_length] at h4
  have h4 : Qd (.lst (ds ++ [])) := h4
  rw [List.append_nil] at h4
  exact k _ _ (.lst ds) (e.trans ext) ⟨A, acc, rfl, f.n.fresh hA, h1, h3.less fun p z => .inl z⟩ h4
def dLcZ (T : TDA) (j l : Nat) (tt : TDT) (te : TDE) : TDE := fun ξ env Q => T ξ env fun ds => match ds with
  | [.tup xs, .tup ys] => (xs.length = ys.length ∧ xs.length ≤ sizeLine) ∧ lcD (gZ j l) tt te (wipeD env [j, l]) (zipD xs ys) fun zs => Q (.lst zs)
  | _ => False
theorem lcZ_imp (hjl : j ≠ l) : ∀ σ H Q, tD F (dLcZ Tas j l tt te) σ H Q → tLc (RZ.iZipA F.K (tDA F Tas)) (rZ F.K j l) (tDT F.calm tt) (tD F.calm te) [j, l] σ H Q := by
  rintro σ H Q ⟨N, env, Qd, f, hT, k⟩
  refine ⟨N, env, _, f, hT, fun vs H1 ds e1 r q => ?_⟩
  split at q
  · rename_i xs ys
    obtain ⟨v1, _, rfl, ⟨a, us, rfl, ra, rs⟩, v2, _, rfl, ⟨b, ws, rfl, rb, rs2⟩, rfl⟩ := r
    have f1 := f.ext' e1
    obtain ⟨⟨hl, hz⟩, q⟩ := q
    have l1 := rs.length
    have l2 := rs2.length
    have lz : (zipD xs ys).length = us.length := by rw [zipD_len hl, l1]
    refine ⟨a, b, us, ws, rfl, .inr ⟨sqt_of ra, sqt_of rb, fun A hA => ?_⟩⟩
    refine ⟨fun i m H' => m = us.length - i ∧ i ≤ us.length ∧ LcAt F N H1 A (gZ j l) tt te (wipeD env [j, l]) (zipD xs ys) Qd i H', ⟨us.length, rfl, Nat.zero_le _, lc_start f1.n hA q⟩, ?_⟩
    rintro i m H' ⟨rfl, hi, L⟩
    have qa : SqT F.K H' a us := by
      refine sqt_of (N := N) ?_
      rcases ra with ⟨n, ra⟩ | ra
      · exact .inl ⟨n, L.ext.keep a _ (fun z => n (f.n.z a z)) kp_tup ra⟩
      · exact .inr ra
    have qb : SqT F.K H' b ws := by
      refine sqt_of (N := N) ?_
      rcases rb with ⟨n, rb⟩ | rb
      · exact .inl ⟨n, L.ext.keep b _ (fun z => n (f.n.z b z)) kp_tup rb⟩
      · exact .inr rb
    by_cases hlt : i < us.length
    · have hx : us[i]? = some us[i] := List.getElem?_eq_getElem hlt
      have hlt2 : i < ws.length := by omega
      have hy : ws[i]? = some ws[i] := List.getElem?_eq_getElem hlt2
      refine .inr ⟨⟨us, ws, _, _, qa, qb, hx, hy⟩, fun H2 => LcAt F N H1 A (gZ j l) tt te (wipeD env [j, l]) (zipD xs ys) Qd (i + 1) H2, fun H2 p => ⟨us.length - (i + 1), by omega, rfl, hlt, p⟩, ?_⟩
      rintro v H2 ⟨T, x', y', rfl, hT', rfl, g1, g2⟩
      obtain ⟨dx, hdx, rdx⟩ := rs.getV (g1 us qa)
      obtain ⟨dy, hdy, rdy⟩ := rs2.getV (g2 ws qb)
      exact lc_turnZ f1 hA hjl (by omega) (zipD_get hdx hdy) rdx rdy L hT'
    · have e : i = us.length := by omega
      subst e
      exact .inl ⟨⟨us, ws, qa, qb, .inl (Nat.le_refl _)⟩, lc_endZ f1 hA e1 k lz L⟩
  · exact q.elim
variable {a b elt : Expr} {elts ifs : List Expr} {kk : Nat} {scope : Scope} {own : List (Str × Nat)} {pos p pos' tpos : Pos}
theorem d_lcZ (hK : F.K = X.K) (hc : X.calm = true) (hN : X.N.Nodup) (hjl : j ≠ l) (hgl : Gl X "zip") (hm : X.mg "zip" = none) (ha : PA X [a, b] (tDA F Tas)) (ok : BlkOk X.N X.env.scope scope own) (hv : own.map (·.2) = [j, l])
    (hg : ∀ (s : Shared) (H : Hp) (C : Addr) (cl : List (Str × Addr)) (fp : List Addr), PG (X.blk s H scope (compEnvC scope cl C X.env) fp) (.Tuple elts kk tpos) (rZ X.K j l)) (ht : ∀ (s : Shared) (H : Hp) (C : Addr) (cl : List (Str × Addr)) (fp : List Addr), PTs (X.blk s H scope (compEnvC scope cl C X.env) fp) ifs (tDT F.calm tt))
    (he : ∀ (s : Shared) (H : Hp) (C : Addr) (cl : List (Str × Addr)) (fp : List Addr), PE (X.blk s H scope (compEnvC scope cl C X.env) fp) elt (tD F.calm te)) (hs1 : starEach [a, b] X.env = (false, eval a X.env) :: starEach [b] X.env := by rfl) (hpl : (backTo pos' (starEach [b] X.env)).any (·.1) = false := by rfl)
    (hs : ∀ x, foldedSetIterable (.Call (.Name "zip" p) [a, b] [] pos') X.env x = pure x := by intro _; rfl) :
    PE X (.ListComp elt [⟨.Tuple elts kk tpos, .Call (.Name "zip" p) [a, b] [] pos', ifs, 0⟩] scope pos) (tD F (dLcZ Tas j l tt te)) := by
  have z := pe_lc (pos := pos) hc hN (RZ.pi_zipA hgl hm ha hs1 hpl) ok hg ht he hs
  rw [hv] at z
  exact PE.imp z (by rw [← hK]; exact lcZ_imp hjl)
end
end DL
set_option Elab.async false
set_option linter.all false
set_option maxRecDepth 100000
/-! what can be shown, by weight -/
namespace DL
open PySem PySem.Spec L2
/-- signs that are signs -/
def Cs (x : Str) : Prop := ∀ c ∈ x.cps.toList, c < 16 ^ 8
theorem cs_of (s : String) : Cs (Str.ofString s) := by
  intro c h
  rw [Str.ofString_eq_toList] at h
  obtain ⟨x, _, rfl⟩ := List.mem_map.mp h
  exact x.val.toNat_lt
theorem Cs.app {x y : Str} (h : Cs x) (g : Cs y) : Cs (x ++ y) := by
  intro c m
  have e : (x ++ y).cps.toList = x.cps.toList ++ y.cps.toList := by
    show (x.cps ++ y.cps).toList = _
    exact Array.toList_append
  rw [e] at m
  exact (List.mem_append.mp m).elim (h c) (g c)
theorem cs_from : ∀ (ts : List Str) (k : Nat) (acc : Str), Cs acc → (∀ t ∈ ts, Cs t) → Cs (textFrom k acc ts)
  | [], _, _, h, _ => h
  | t :: ts, k, acc, h, g => cs_from ts (k + 1) _ ((h.app (cs_of _)).app (g t List.mem_cons_self)) fun u m => g u (List.mem_cons_of_mem _ m)
theorem cs_list {ts : List Str} (g : ∀ t ∈ ts, Cs t) : Cs (listText ts) := (cs_from ts 0 _ (cs_of _) g).app (cs_of _)
theorem cs_join : ∀ (ts : List Str), (∀ t ∈ ts, Cs t) → Cs (Str.join ", " ts)
  | [], _ => cs_of ""
  | [t], g => g t List.mem_cons_self
  | t :: u :: r, g => ((g t List.mem_cons_self).app (cs_of _)).app (cs_join (u :: r) fun x m => g x (List.mem_cons_of_mem _ m))
theorem cs_tuple {ts : List Str} (g : ∀ t ∈ ts, Cs t) : Cs (tupleText ts) := ((cs_of "(").app (cs_join ts g)).app (cs_of _)
theorem cs_dict {ts : List Str} (g : ∀ t ∈ ts, Cs t) : Cs (dictText ts) := ((cs_of "{").app (cs_join ts g)).app (cs_of _)
theorem cs_char {q c : Nat} (hq : q < 16 ^ 8) (hc : c < 16 ^ 8) : ∀ x ∈ Builtin.Str.reprChar q c, x < 16 ^ 8 := by
  have hx : ∀ (n : Nat), ∀ x ∈ (List.replicate (n - ((Nat.toDigits 16 c).map Char.toNat).length) 48 ++ (Nat.toDigits 16 c).map Char.toNat), x < 16 ^ 8 := by
    intro n x m
    rcases List.mem_append.mp m with m | m
    · have := (List.mem_replicate.mp m).2
      subst this
      decide
    · obtain ⟨y, _, rfl⟩ := List.mem_map.mp m
      exact y.val.toNat_lt
  have small : ∀ {x a b : Nat}, x ∈ [a, b] → a < 16 ^ 8 → b < 16 ^ 8 → x < 16 ^ 8 := by
    intro x a b m h1 h2
    rcases List.mem_cons.mp m with rfl | m
    · exact h1
    · rcases List.mem_cons.mp m with rfl | m
      · exact h2
      · cases m
  intro x m
  unfold Builtin.Str.reprChar at m
  dsimp only at m
  repeat' split at m
  all_goals first
    | exact small m (by decide) hc
    | exact small m (by decide) (by decide)
    | (rcases List.mem_cons.mp m with rfl | m
       · exact hc
       · cases m)
    | (rcases List.mem_append.mp m with m | m
       · exact small m (by decide) (by decide)
       · exact hx _ x m)
theorem cs_repr {x : Str} (h : Cs x) : Cs (reprText x) := by
  have hq : reprQuote x < 16 ^ 8 := by
    unfold reprQuote
    split <;> decide
  have key : ∀ (l : List Nat) (acc : Array Nat), (∀ c ∈ l, c < 16 ^ 8) → (∀ c ∈ acc.toList, c < 16 ^ 8) → ∀ c ∈ (l.foldl (fun out c => out ++ (Builtin.Str.reprChar (reprQuote x) c).toArray) acc).toList, c < 16 ^ 8 := by
    intro l
    induction l with
    | nil => intro acc _ h; exact h
    | cons a l ih =>
      intro acc h1 h2
      refine ih _ (fun c m => h1 c (List.mem_cons_of_mem _ m)) ?_
      intro c m
      rw [Array.toList_append] at m
      rcases List.mem_append.mp m with m | m
      · exact h2 c m
      · exact cs_char hq (h1 a List.mem_cons_self) c (by simpa using m)
  intro c m
  unfold reprText at m
  have m : c ∈ ((x.cps.foldl (fun out c => out ++ (Builtin.Str.reprChar (reprQuote x) c).toArray) #[reprQuote x]).push (reprQuote x)).toList := m
  rw [← Array.foldl_toList, Array.toList_push] at m
  rcases List.mem_append.mp m with m | m
  · exact key _ _ h (by intro c m; simp at m; rw [m]; exact hq) c m
  · simp at m
    rw [m]
    exact hq
/-- shown with at most w signs, at most k deep -/
structure Gd (w k : Nat) (d : D) : Prop where
  pl : plainR d = true
  sh : (toP d).showable = true
  dp : (toP d).depth ≤ k
  ln : (toP d).shown.length ≤ w
  cs : Cs (toP d).shown
  le : ∀ ds, seqOf d = some ds → ds.length ≤ 1000
theorem Gd.mono {w k w' k' : Nat} {d : D} (g : Gd w k d) (h : w ≤ w') (h' : k ≤ k') : Gd w' k' d := ⟨g.pl, g.sh, Nat.le_trans g.dp h', Nat.le_trans g.ln h, g.cs, g.le⟩
theorem Gd.show {w k : Nat} {d : D} (g : Gd w k d) (h : w ≤ 16777216 := by decide) (h' : k ≤ 64 := by decide) : showR d := ⟨g.pl, g.sh, Nat.le_trans g.dp h', Nat.le_trans g.ln (by rw [sizeLine_eq]; exact h)⟩
theorem gd_non : Gd 100 0 .non := ⟨rfl, rfl, by decide +kernel, by decide +kernel, cs_of "None", fun _ h => by cases h⟩
theorem gd_bl (b : Bool) : Gd 100 0 (.bl b) := ⟨rfl, rfl, by cases b <;> decide +kernel, by cases b <;> decide +kernel, by cases b <;> exact cs_of _, fun _ h => by cases h⟩
theorem gd_int {i : Int} (h : Bd 250 i) : Gd 100 0 (.int i) := by
  have h10 : i.natAbs < 10 ^ 76 := Nat.lt_of_lt_of_le h (by decide)
  have l := int_text_length_le10 (k := 76) (by decide) h10
  refine ⟨rfl, ?_, ?_, ?_, cs_of _, fun _ h => by cases h⟩
  · simp only [toP, PyData.showable]
    exact decide_eq_true (PySem.Flt.log2_lt_of (by decide) (h.mono (m := 1920) (by decide)))
  · simp only [toP, PyData.depth]; decide
  · show (Str.ofString (toString i)).length ≤ 100
    rw [PySem.ofString_length]
    omega
theorem gd_str {x : Str} {n : Nat} (h : x.length ≤ n) (c : Cs x) : Gd (10 * n + 2) 0 (.str x) := by
  refine ⟨rfl, rfl, ?_, ?_, cs_repr c, fun _ h => by cases h⟩
  · simp only [toP, PyData.depth]; decide
  · show (reprText x).length ≤ _
    have := StrLaws.reprText_len x c
    omega
theorem gds {w k : Nat} : ∀ ds : List D, (∀ d ∈ ds, Gd w k d) → plainRs ds = true ∧ PyData.showableAll (toPs ds) = true ∧ PyData.depthAll (toPs ds) ≤ k ∧ ((PyData.shownAll (toPs ds)).map (·.length)).sum ≤ w * ds.length ∧ (PyData.shownAll (toPs ds)).length = ds.length ∧ ∀ t ∈ PyData.shownAll (toPs ds), Cs t
  | [], _ => by refine ⟨rfl, rfl, ?_, ?_, ?_, ?_⟩ <;> simp [toPs, PyData.shownAll, PyData.depthAll]
  | d :: ds, h => by
    obtain ⟨h1, h2, h3, h4, h5, h6⟩ := gds ds fun x m => h x (List.mem_cons_of_mem _ m)
    have g := h d List.mem_cons_self
    refine ⟨?_, ?_, ?_, ?_, ?_, ?_⟩
    · show (plainR d && plainRs ds) = true
      rw [g.pl, h1]; rfl
    · show PyData.showableAll (toP d :: toPs ds) = true
      simp only [PyData.showableAll, g.sh, h2, Bool.and_self]
    · show PyData.depthAll (toP d :: toPs ds) ≤ k
      have := g.dp
      simp only [PyData.depthAll]
      omega
    · show ((PyData.shownAll (toP d :: toPs ds)).map (·.length)).sum ≤ _
      have := g.ln
      simp only [PyData.shownAll, List.map_cons, List.sum_cons, List.length_cons, Nat.mul_succ]
      omega
    · show (PyData.shownAll (toP d :: toPs ds)).length = _
      simp only [PyData.shownAll, List.length_cons, h5]
    · show ∀ t ∈ PyData.shownAll (toP d :: toPs ds), Cs t
      intro t m
      simp only [PyData.shownAll, List.mem_cons] at m
      rcases m with rfl | m
      · exact g.cs
      · exact h6 t m
theorem gd_lst {w k n : Nat} {ds : List D} (h : ∀ d ∈ ds, Gd w k d) (hl : ds.length ≤ n) (hn : n ≤ 1000 := by decide) : Gd ((w + 2) * n + 4) (k + 1) (.lst ds) := by
  obtain ⟨h1, h2, h3, h4, h5, h6⟩ := gds ds h
  have m : (w + 2) * ds.length ≤ (w + 2) * n := Nat.mul_le_mul_left _ hl
  refine ⟨h1, ?_, ?_, ?_, ?_, fun _ e => by cases e; omega⟩
  · simpa only [toP, PyData.showable] using h2
  · simp only [toP, PyData.depth]; omega
  · have q := listText_len_le (PyData.shownAll (toPs ds))
    rw [show (toP (.lst ds)).shown = listText (PyData.shownAll (toPs ds)) by simp only [toP, PyData.shown]]
    rw [Nat.add_mul] at m
    omega
  · rw [show (toP (.lst ds)).shown = listText (PyData.shownAll (toPs ds)) by simp only [toP, PyData.shown]]
    exact cs_list h6
theorem gd_tup {w k n : Nat} {ds : List D} (h : ∀ d ∈ ds, Gd w k d) (hl : ds.length ≤ n) (hn : n ≤ 1000 := by decide) : Gd ((w + 2) * n + 4) (k + 1) (.tup ds) := by
  obtain ⟨h1, h2, h3, h4, h5, h6⟩ := gds ds h
  have m : (w + 2) * ds.length ≤ (w + 2) * n := Nat.mul_le_mul_left _ hl
  refine ⟨h1, ?_, ?_, ?_, ?_, fun _ e => by cases e; omega⟩
  · simpa only [toP, PyData.showable] using h2
  · simp only [toP, PyData.depth]; omega
  · have q := tupleText_len_le (PyData.shownAll (toPs ds))
    rw [show (toP (.tup ds)).shown = tupleText (PyData.shownAll (toPs ds)) by simp only [toP, PyData.shown]]
    rw [Nat.add_mul] at m
    omega
  · rw [show (toP (.tup ds)).shown = tupleText (PyData.shownAll (toPs ds)) by simp only [toP, PyData.shown]]
    exact cs_tuple h6
/-- the parts of what is plain are typed -/
theorem typed_of {d : D} (h : plainR d = true) : typed d = true := by
  cases d <;> first | rfl | cases h
theorem plainRs_mem : ∀ {ds : List D}, plainRs ds = true → ∀ d ∈ ds, plainR d = true
  | [], _, _, m => by cases m
  | x :: ds, h, d, m => by
    have h : (plainR x && plainRs ds) = true := h
    obtain ⟨h1, h2⟩ := Bool.and_eq_true_iff.mp h
    rcases List.mem_cons.mp m with rfl | m
    · exact h1
    · exact plainRs_mem h2 d m
end DL
set_option Elab.async false
set_option linter.all false
set_option maxRecDepth 100000
set_option maxHeartbeats 2000000
/-! for i, x in enumerate(t), t a tuple -/
namespace PySem
open Sem (wp)
/-- enumerate(v) begins, whatever iter(v) is -/
theorem enumStartsOver {v : Value} {o : Obj} {G : Heap → Prop} (B : Begins v o G) :
    Meets (Builtin.«enumerate.__new__» ⟨[.type "enumerate", v], []⟩) (fun _ R s => G s.heap ∧
      R (.ok (.ret (.ref (s.heap.push o).objs.size))) { s with heap := (s.heap.push o).push { cls := .type "enumerate", data := .fields #[.none, .bool false, .ref s.heap.objs.size, rawInt 0, .none, .none] } }) :=
  .of_wp fun prog w A R s h => by
    obtain ⟨hp, g, d, tk, os⟩ := s
    obtain ⟨h0, h⟩ := h
    have hsub := sub_enumerate
    have begin_ : ∀ {A' : Around} {E : Value → Shared → Prop} {Q : Value → Shared → Prop}, Q (.ref hp.objs.size) ⟨hp.push o, g, d, tk, os⟩ → wpAny (model prog w) A' (pyIter v) Q E ⟨hp, g, d, tk, os⟩ :=
      fun q => B.iter prog w _ _ ⟨hp, g, d, tk, os⟩ _ h0 q
    wp_walk
    refine wpAny_stack_any fun st => wpAny_pure ?_
    split
    · rename_i c _ _ _ _ _
      cases (c == Value.type "enumerate") <;>
      · wp_walk using begin_
        exact ⟨_, rfl, h⟩
    · wp_walk using begin_
      exact ⟨_, rfl, h⟩
section
variable {prog : Program} {w : World} {A : Around} {E : Value → Shared → Prop} {s : Shared}
theorem enumTupleBegins {t : Addr} {items : Array Value} {Q : Value → Shared → Prop} (hT : s.heap.IsTuple t items)
    (h : ∀ h', IsEnum h' (s.heap.objs.size + 1) s.heap.objs.size 0 .none → h'.IsTupleIter s.heap.objs.size t 0 → h'.objs.size = s.heap.objs.size + 2 →
      (∀ b o, s.heap.get? b = some o → h'.get? b = some o) → Q (.ref (s.heap.objs.size + 1)) { s with heap := h' }) :
    wpAny (model prog w) A (call (.type "enumerate") [.ref t]) Q E s := by
  refine callType_new F.called_enumerate (by decide) (F.typeCall_enumerate_1 _) (F.newCall_enumerate_1 _) (fun obj => F.args_object_init_2 obj _) F.entry_enumerate_new
    (enumStartsOver (begins_tuple t items)) ⟨hT, ?_⟩
  generalize hg1 : s.heap.push { cls := .type "tuple_iterator", data := .fields #[.ref t, .int 0 0] } = g1
  have z1 : g1.objs.size = s.heap.objs.size + 1 := by rw [← hg1]; exact Heap.size_push ..
  have it1 : g1.get? s.heap.objs.size = some { cls := .type "tuple_iterator", data := .fields #[.ref t, .int 0 0] } := by rw [← hg1]; exact Heap.get?_push_size _ rfl
  have k1 : ∀ b o, s.heap.get? b = some o → g1.get? b = some o := fun b o e => by rw [← hg1]; exact Heap.get?_push_of_some _ e
  generalize hg2 : g1.push { cls := .type "enumerate", data := .fields #[.none, .bool false, .ref s.heap.objs.size, rawInt 0, .none, .none] } = g2
  have z2 : g2.objs.size = s.heap.objs.size + 2 := by rw [← hg2, Heap.size_push, z1]
  have e2 : g2.get? (s.heap.objs.size + 1) = some { cls := .type "enumerate", data := .fields #[.none, .bool false, .ref s.heap.objs.size, rawInt 0, .none, .none] } := by
    rw [← hg2, ← z1]; exact Heap.get?_push_size _ rfl
  have k2 : ∀ b o, g1.get? b = some o → g2.get? b = some o := fun b o e => by rw [← hg2]; exact Heap.get?_push_of_some _ e
  show _ ∧ _
  rw [z1]
  exact ⟨⟨_, e2, rfl⟩, h g2 e2 ⟨_, k2 _ _ it1, rfl, rfl⟩ z2 fun b o e => k2 b o (k1 b o e)⟩
end
end PySem
namespace L2
open PySem PySem.Spec PyProof.Rows
/-- the tuple at a, each item in a new pair behind its place -/
def ItP (K : PySem.W.Frag) (a : Addr) : It where
  go := fun i H => ∃ (xs : List V) (x : V), SqT K H a xs ∧ xs[i]? = some x
  yld := fun i H v H' => ∃ T x, v = .ref T ∧ H T = none ∧ H' = upd H T (.tup [.int (i : Nat), x]) ∧ ∀ xs, SqT K H a xs → xs[i]? = some x
  stop := fun i H => ∃ xs : List V, SqT K H a xs ∧ xs.length = i
theorem tup_ne {h : Heap} {a b : Addr} {vs : Array Value} {o : Obj} (t : h.IsTuple a vs) (e : h.get? b = some o) (n : o.cls ≠ .type "tuple") : a ≠ b := by
  rintro rfl
  obtain ⟨o2, p2, c2, _⟩ := t
  rw [e] at p2
  cases p2
  exact n c2
theorem tup_nit {h : Heap} {a it : Addr} {i : Nat} {vs : Array Value} (t : h.IsTuple a vs) (q : h.IsTupleIter it a i) : a ≠ it := by
  obtain ⟨o1, p1, c1, _⟩ := q
  exact tup_ne t p1 (by rw [c1]; decide)
theorem two_mem {b e it : Addr} (h : b ∈ [e, it]) : b = e ∨ b = it := by simpa using h
theorem turnP {P : Program} {w : World} {K : PySem.W.Frag} {elts : List Expr} {kk : Nat} {tpos : Pos} (a e it : Addr) :
    Turn P w K (.Tuple elts kk tpos) (ItP K a) [e, it] e (fun i h => (∃ old, IsEnum h e it ((i : Nat) : Int) old) ∧ h.IsTupleIter it a i ∧ e ≠ it) where
  mem := List.mem_cons_self
  obj := fun i h st b hb => by
    obtain ⟨⟨_, he⟩, ⟨o, ho, _, hd⟩, _⟩ := st
    rcases two_mem hb with rfl | rfl
    · exact ⟨_, he, fun _ q => nomatch q⟩
    · exact ⟨o, ho, fun _ q => by rw [hd] at q; cases q⟩
  keep := fun i h h' st k => by
    obtain ⟨⟨old, he⟩, hi, hne⟩ := st
    exact ⟨⟨old, k e List.mem_cons_self _ he⟩, hi.at fun o q => k it (by simp) o q, hne⟩
  item := by
    intro X hP hw hK hc i pins s σ H E I hf st hg
    subst hP hw hK
    obtain ⟨⟨old, he⟩, hit, hne⟩ := st
    obtain ⟨xs, x, sq, hx⟩ := hg
    obtain ⟨its, vals, tup, _⟩ := I.tuple sq
    obtain ⟨u, hu, ru⟩ := vals.get hx
    have le := Heap.lt_size he
    have li : it < s.heap.objs.size := by obtain ⟨_, q, _⟩ := hit; exact Heap.lt_size q
    have tup : s.heap.IsTuple a its.toArray := tup
    have ai := tup_nit tup hit
    have ae : a ≠ e := tup_ne tup he (show Value.type "enumerate" ≠ Value.type "tuple" by decide)
    have hi : i < its.toArray.size := by
      have := (List.getElem?_eq_some_iff.mp hu).1
      simpa using this
    have eu : ∀ y, its.toArray[i]? = some y → y = u := fun y hy => by
      have : its[i]? = some y := by simpa using hy
      rw [hu] at this
      exact (Option.some.inj this).symm
    refine wpAny_pyNext_enum_itemD (Draws.tuple (A := X.A.in1) (I.ok.hd hc) it a ai its.toArray) he ⟨hit, tup⟩ hi hne (fun m => (two_mem m).elim hne (Ne.symm ae)) fun y h' tk hy out st' hT hsz hk => ?_
    cases eu y hy
    refine ⟨_, rfl, wpAny_letOwnedTupleGo_enum (s := { s with heap := h', toks := tk + 1 }) out fun h'' he' sb => ?_⟩
    have hT2 : h''.get? s.heap.objs.size = some { cls := .type "tuple", data := .seq #[.int i tk, u] } := (sb.2 _ (Nat.ne_of_gt le)).trans hT
    have fresh : ObjOk X.prog X.w (upd H s.heap.objs.size (.tup [.int (i : Nat), x])) h'' s.heap.objs.size (.tup [.int (i : Nat), x]) :=
      ⟨by show 2 ≤ sizeLine; decide, [.int i tk, u], .cons ⟨_, rfl⟩ (.cons ru .nil), ⟨_, hT2, rfl, _, rfl⟩⟩
    have kept : ∀ b ob, b ∉ [e, it] → s.heap.get? b = some ob → h''.get? b = some ob := fun b ob hb q => by
      have b1 : b ≠ e := fun z => hb (by simp [z])
      have b2 : b ≠ it := fun z => hb (by simp [z])
      exact (sb.2 b b1).trans (hk b ob b1 b2 q)
    have J := I.turnedNew (ch := [e, it]) (t' := tk + 1) kept hf (Nat.le_refl _) fresh
    refine ⟨.ref s.heap.objs.size, _, J, rfl, ⟨_, x, rfl, I.hok.fresh (Nat.le_refl _), rfl, fun ys hy => by rw [I.tuple_inj hy sq]; exact hx⟩, ⟨⟨u, ?_⟩, st'.1.at fun o q => (sb.2 it (Ne.symm hne)).trans q, hne⟩, fun b hb => ?_⟩
    · rw [show ((i + 1 : Nat) : Int) = (i : Int) + 1 by omega]
      exact he'
    · have lb : b < s.heap.objs.size := by
        rcases two_mem hb with rfl | rfl
        · exact le
        · exact li
      rw [upd_ne (Nat.ne_of_lt lb)]
      exact (hf b hb).1
  done := by
    intro X hP hw hK hc i pins s σ H E I hf st hg
    subst hP hw hK
    obtain ⟨⟨old, he⟩, hit, hne⟩ := st
    obtain ⟨xs, sq, hx⟩ := hg
    obtain ⟨its, vals, tup, _⟩ := I.tuple sq
    have tup : s.heap.IsTuple a its.toArray := tup
    have n_ : its.toArray.size = i := by rw [← hx, vals.length]; simp
    obtain ⟨f0, f1, f2, f3, f4, f5⟩ := hf it (by simp)
    refine wpAny_pyNext_enum_endD (Draws.tuple (A := X.A.in1) (I.ok.hd hc) it a (tup_nit tup hit) its.toArray) he ⟨by rw [n_]; exact hit, tup⟩ fun h' eb => ⟨rfl, I.turned (t' := s.toks) (fun b o hb q => eb b o hb q) f0 f1 f3 f4 f5⟩
  self := fun A i s Q E st h => let ⟨⟨_, he⟩, _⟩ := st; wpAny_pyIter_enum he h
/-- enumerate(e), e a tuple -/
def iEnumP (K : PySem.W.Frag) (ta : TA) : TI := fun σ H R => ta σ H fun vs H1 => ∃ (a : Addr) (xs : List V), vs = [.ref a] ∧ SqT K H1 a xs ∧ R (ItP K a) H1
theorem pi_enumP {X : Cx} {e : Expr} {ta : TA} {p pos tpos : Pos} {elts : List Expr} {kk : Nat} (hg : Gl X "enumerate") (hm : X.mg "enumerate" = none) (ha : PA X [e] ta) (hs : starEach [e] X.env = [(false, eval e X.env)] := by rfl) :
    PI X (.Tuple elts kk tpos) (.Call (.Name "enumerate" p) [e] [] pos) (iEnumP X.K ta) := by
  refine ⟨fun pins s σ H R I want => Call_ (ld_blt I hg hm boot_enumerate (PyProof.Rows.callWith_type1 (thn (ha.run pos pins s σ H _ I want) fun us s1 got => ?_) hs rfl))⟩
  obtain ⟨vs, H1, I1, r1, a, xs, rfl, sq, q⟩ := got
  obtain ⟨its, vals, tup, _⟩ := I1.tuple sq
  cases r1 with
  | cons r rr =>
    cases rr
    cases r
    refine enumTupleBegins (t := a) (items := its.toArray) tup fun h' he hit _ hk => wpAny_pyIter_enum he ?_
    have J : Inv X pins σ H1 { s1 with heap := h' } := I1.kept (t' := s1.toks) hk
    refine ⟨s1.heap.objs.size + 1, [s1.heap.objs.size + 1, s1.heap.objs.size], _, _, H1, rfl, J, turnP a _ _, ⟨⟨.none, he⟩, hit, Nat.succ_ne_self _⟩, fun b hb => ?_, q⟩
    have above : s1.heap.objs.size ≤ b := by
      rcases two_mem hb with rfl | rfl
      · exact Nat.le_succ _
      · exact Nat.le_refl _
    exact I1.fpOk above (I1.hok.fresh above)
theorem walkP {K : PySem.W.Frag} {a : Addr} {xs : List V} : Walk (ItP K a) xs.length (fun H => SqT K H a xs) (YPair (fun i => some (.int (i : Nat))) (fun i => xs[i]?)) := by
  refine ⟨fun i _ hi q => ⟨xs, xs[i], q, List.getElem?_eq_getElem hi⟩, fun _ q => ⟨xs, q, rfl⟩, ?_⟩
  rintro i H v H' _ q ⟨T, x, h1, h2, h3, h4⟩
  exact ⟨T, .int (i : Nat), x, h1, h2, h3, rfl, h4 xs q⟩
end L2
namespace DL
open PySem PySem.Spec L2
open PyProof.Rows hiding St
/-- the items behind their places -/
def enumD : Nat → List D → List D
  | _, [] => []
  | i, d :: ds => .tup [.int (i : Nat), d] :: enumD (i + 1) ds
theorem enumD_len : ∀ {ds : List D} {i : Nat}, (enumD i ds).length = ds.length
  | [], _ => rfl
  | _ :: ds, i => by
    show (enumD (i + 1) ds).length + 1 = ds.length + 1
    rw [enumD_len]
theorem enumD_get : ∀ {ds : List D} {i j : Nat} {d : D}, ds[j]? = some d → (enumD i ds)[j]? = some (.tup [.int ((i + j : Nat) : Int), d])
  | [], _, _, _, h => by simp at h
  | x :: ds, i, 0, d, h => by
    cases h
    rfl
  | x :: ds, i, j + 1, d, h => by
    show (enumD (i + 1) ds)[j]? = _
    rw [enumD_get (by simpa using h), show i + 1 + j = i + (j + 1) by omega]
/-- for i, x in enumerate(t) -/
def dForE (T : TDA) (G : TDG) (B : TDS) : TDS := fun ξ De env => T ξ env fun ds => match ds with
  | [.tup xs] => forD G B ξ De (enumD 0 xs) env
  | _ => False
section
variable {X : Cx} {F : FP} {Tas : TDA} {G : TDG} {B : TDS}
theorem ds_forE {e : Expr} {elts : List Expr} {kk : Nat} {p pos pos' tpos : Pos} {body : List Stmt} (hK : F.K = X.K) (hp : PassesOwn (model X.prog X.w) X.A X.env X.xe) (hc : X.calm = true) (hgl : Gl X "enumerate") (hm : X.mg "enumerate" = none) (ha : PA X [e] (tDA F Tas)) (hg : PG X (.Tuple elts kk tpos) (gD F G)) (hb : PSs X body (sD F B))
    (hsa : starEach [e] X.env = [(false, eval e X.env)] := by rfl) (hs : ∀ x, foldedSetIterable (.Call (.Name "enumerate" p) [e] [] pos') X.env x = pure x := by intro _; rfl) : PS X (.For (.Tuple elts kk tpos) (.Call (.Name "enumerate" p) [e] [] pos') body [] pos) (sD F (dForE Tas G B)) := PS.imp (ps_for hp hc (pi_enumP hgl hm ha hsa) hg hb hs) (by
  rintro De σ H ⟨N, env, Dd, f, hT, ok⟩
  refine ⟨N, env, _, f, hT, fun vs H1 ds e1 r q => ?_⟩
  split at q
  · rename_i xs
    obtain ⟨v, _, rfl, ⟨a, us, rfl, ra, rs⟩, rfl⟩ := r
    have f1 := f.ext' e1
    have ok1 := ok.of (.of f.n e1)
    refine ⟨a, us, rfl, by rw [← hK]; exact sqt_of ra, ?_⟩
    refine for_it (walkP (K := X.K) (a := a) (xs := us)) (fun i σ H' => ∃ N' env', FOk F N' σ H' env' ∧ Evo N H1 N' H' ∧ forD G B F.ex Dd ((enumD 0 xs).drop i) env') ⟨N, env, f1, .refl, q⟩ ?_ ?_ ?_
    · rintro i σ' H' _ ⟨N', env', f', ev, _⟩
      rw [← hK]
      refine sqt_of (N := N') ?_
      rcases ra with ⟨n, ra⟩ | ra
      · obtain ⟨h1, h2⟩ := ev a _ n kp_tup ra
        exact .inl ⟨h2, h1⟩
      · exact .inr ra
    · rintro i x σ' H' H2 hi ⟨N', env', f', ev, q'⟩ ⟨T, x', y', rfl, hT', rfl, g1, g2⟩
      cases g1
      obtain ⟨d, hd, rd⟩ := rs.getV g2
      have lT := f'.n.lay (o := .tup [.int (i : Nat), y']) hT'
      have f2 := f'.ext' lT
      have rd' := Rep.mono ev d y' rd
      have r2 : Rep F.K F.Z N' (upd H' T (.tup [.int (i : Nat), y'])) (.tup [.int ((0 + i : Nat) : Int), d]) (.ref T) := by
        rw [Nat.zero_add]
        exact rep_newT f'.n hT' ⟨_, _, rfl, rep_int, _, _, rfl, rd', rfl⟩
      exact forD_step (fun _ _ _ => Iff.rfl) ok1 f2 (ev.trans (.of f'.n lT)) (enumD_get (i := 0) hd) r2 q'
    · rintro σ' H' ⟨N', env', f', ev, q'⟩
      rw [← rs.length, show xs.length = (enumD 0 xs).length from enumD_len.symm, List.drop_length] at q'
      exact ok1.nx _ _ _ _ f' ev q'
  · exact q.elim)
end
end DL
set_option Elab.async false
set_option linter.all false
set_option maxRecDepth 100000
set_option maxHeartbeats 2000000
/-! tuples just displayed whose objects are known; in and index over data; constants of the module -/
namespace DL
open PySem PySem.Spec L2
open PyProof.Rows hiding St
section
variable {X : Cx} {F : FP} {a b e : Expr} {es : List Expr} {Ta Tb : TDE} {Tas : TDA} {pos p : Pos}
/-- a display whose object is told -/
def tTupF (t : TA) : TE := fun σ H Q => t σ H fun xs H1 => xs.length ≤ sizeLine ∧ ∀ (q : Addr) (o : Obj), o.dict = none → H1 q = none → Q (.ref q) (upd H1 q (.frz o (.tup xs)))
theorem pe_tupF {x1 : _} {t : TA} (h : PA X es t) : PE X (.Tuple es x1 pos) (tTupF t) := by
  refine ⟨fun pins s σ H Q I hq => wpAny_Tuple_spliced (thn (h.run pos pins s σ H _ I hq) fun us s1 got => ?_)⟩
  obtain ⟨xs, H1, I1, r, small, q⟩ := got
  refine ⟨by rw [← r.length]; exact small, ?_⟩
  have free := I1.hok.fresh (Nat.le_refl s1.heap.objs.size)
  generalize ho : ({ cls := .type "tuple", data := .seq us.toArray } : Obj) = o
  have at_ : (s1.heap.push o).get? s1.heap.objs.size = some o := Heap.get?_push_size _ (by rw [← ho]; rfl)
  have new : ObjOk X.prog X.w (upd H1 s1.heap.objs.size (.frz o (.tup xs))) (s1.heap.push o) s1.heap.objs.size (.frz o (.tup xs)) :=
    ⟨at_, small, us, r, ⟨o, at_, by rw [← ho], _, by rw [← ho]⟩⟩
  have J := I1.laid (t' := s1.toks) (fun _ _ e => Heap.get?_push_of_some _ e) (Nat.le_refl _) new
  subst ho
  exact ⟨.ref s1.heap.objs.size, _, J, rfl, q _ _ rfl free⟩
/-- a tuple displayed, its object known -/
def dTupK (T : TDA) : TDE := fun ξ env Q => T ξ env fun ds => ds.length ≤ sizeLine ∧ Q (.kt ds)
theorem d_tupK {x1 : _} (h : PA X es (tDA F Tas)) : PE X (.Tuple es x1 pos) (tD F (dTupK Tas)) := PE.imp (pe_tupF h) (by
  rintro σ H Q ⟨N, env, Qd, f, hT, k⟩
  refine ⟨N, env, _, f, hT, fun vs H1 ds e1 r1 q1 => ⟨by rw [← r1.length]; exact q1.1, fun q o od hq => ?_⟩⟩
  have n := (f.ext' e1).n
  refine k _ _ (.kt ds) (e1.trans (n.lay hq)) ⟨q, vs, o, rfl, n.fresh hq, upd_same, od, r1.ext (n.lay hq) n.z⟩ q1.2)
/-- what can be walked as a tuple or a list, compared -/
def itemsD : D → Option (List D)
  | .tup ds => some ds
  | .kt ds => some ds
  | .lst ds => some ds
  | _ => none
def inD (d : D) (ds : List D) : Bool := (toPs ds).any fun z => PyData.eqv z (toP d)
def gInD (neg : Bool) : G2 := fun x y Q => match itemsD y with
  | some ds => (eqOk x = true ∧ eqOk y = true) ∧ Q (.bl (if neg then !inD x ds else inD x ds))
  | none => False
def rInT (K : PySem.W.Frag) (neg : Bool) : R2 := fun x y H Q => ∃ d ds, Dp K H x d ∧ (Dp K H y (.tuple ds) ∨ Dp K H y (.list ds)) ∧ SeqAt.shaped d = true ∧ SeqAt.shaped (.tuple ds) = true ∧ Q (.bl (if neg then !(ds.any fun z => PyData.eqv z d) else ds.any fun z => PyData.eqv z d)) H
theorem shaped_tl {ds : List PyData} : SeqAt.shaped (.list ds) = SeqAt.shaped (.tuple ds) := by
  simp only [SeqAt.shaped, PyData.canLay0, PyData.depth]
  rfl
theorem op_inT (hu : X.A.units + 65 < cLine) : OpR X (compareOp .In) (rInT X.K false) := by
  intro pins s σ H x y v u Q I rx ry h
  obtain ⟨d, ds, hd, he, sd, se, q⟩ := h
  obtain ⟨as, r1⟩ := Dp.reads I d x v hd rx
  rcases he with he | he
  · obtain ⟨bs, r2⟩ := Dp.reads I (.tuple ds) y u he ry
    exact SeqAt.in_tuple_reads r2 r1 (SeqAt.canLay_of_shaped se) (SeqAt.canLay_of_shaped sd) (room_in_shaped sd hu) ⟨.bl _, H, I, rfl, q⟩
  · obtain ⟨bs, r2⟩ := Dp.reads I (.list ds) y u he ry
    exact SeqAt.in_list_reads r2 r1 (SeqAt.canLay_of_shaped se) (SeqAt.canLay_of_shaped sd) (room_in_shaped sd hu) ⟨.bl _, H, I, rfl, q⟩
theorem op_ninT (hu : X.A.units + 65 < cLine) : OpR X (compareOp .NotIn) (rInT X.K true) := by
  intro pins s σ H x y v u Q I rx ry h
  obtain ⟨d, ds, hd, he, sd, se, q⟩ := h
  obtain ⟨as, r1⟩ := Dp.reads I d x v hd rx
  rcases he with he | he
  · obtain ⟨bs, r2⟩ := Dp.reads I (.tuple ds) y u he ry
    exact SeqAt.notIn_tuple_reads r2 r1 (SeqAt.canLay_of_shaped se) (SeqAt.canLay_of_shaped sd) (room_in_shaped sd hu) ⟨.bl _, H, I, rfl, q⟩
  · obtain ⟨bs, r2⟩ := Dp.reads I (.list ds) y u he ry
    exact SeqAt.notIn_list_reads r2 r1 (SeqAt.canLay_of_shaped se) (SeqAt.canLay_of_shaped sd) (room_in_shaped sd hu) ⟨.bl _, H, I, rfl, q⟩
theorem opd_inD (neg : Bool) : OpD F (rInT F.K neg) (gInD neg) := ⟨by
  intro N H x y dx dy Qd Q n rx ry h k
  unfold gInD at h
  split at h
  · rename_i ds hds
    obtain ⟨⟨h1, h2⟩, q⟩ := h
    obtain ⟨p1, s1⟩ := Bool.and_eq_true_iff.mp h1
    obtain ⟨p2, s2⟩ := Bool.and_eq_true_iff.mp h2
    have r1 := Rep.dp dx x p1 rx
    have r2 := Rep.dp dy y p2 ry
    cases dy <;> first | (cases hds; done) | skip
    · cases hds
      exact ⟨_, toPs ds, r1, .inl r2, s1, s2, k _ _ _ Ext.refl rep_bl q⟩
    · cases hds
      exact ⟨_, toPs ds, r1, .inr r2, s1, by rw [← shaped_tl]; exact s2, k _ _ _ Ext.refl rep_bl q⟩
    · cases hds
      exact ⟨_, toPs ds, r1, .inl r2, s1, s2, k _ _ _ Ext.refl rep_bl q⟩
  · exact h.elim⟩
theorem d_inD (hK : F.K = X.K) (hu : X.A.units + 65 < cLine) (ha : PE X a (tD F Ta)) (hb : PE X b (tD F Tb)) (hm : behindInMarks .In b = false := by rfl) : PE X (.Compare a [.In] [b] pos) (tD F (dBin (gInD false) Ta Tb)) := by
  have o := opd_inD (F := F) false
  rw [hK] at o
  exact d_cmp (op_inT hu) o ha hb hm
theorem dt_inD (hK : F.K = X.K) (hu : X.A.units + 65 < cLine) (ha : PE X a (tD F Ta)) (hb : PE X b (tD F Tb)) (hm : behindInMarks .In b = false := by rfl) : PT X (.Compare a [.In] [b] pos) (tDT F (dTest (dBin (gInD false) Ta Tb))) := by
  have o := opd_inD (F := F) false
  rw [hK] at o
  exact dt_cmp (op_inT hu) o ha hb hm
theorem d_ninD (hK : F.K = X.K) (hu : X.A.units + 65 < cLine) (ha : PE X a (tD F Ta)) (hb : PE X b (tD F Tb)) (hm : behindInMarks .NotIn b = false := by rfl) : PE X (.Compare a [.NotIn] [b] pos) (tD F (dBin (gInD true) Ta Tb)) := by
  have o := opd_inD (F := F) true
  rw [hK] at o
  exact d_cmp (op_ninT hu) o ha hb hm
theorem dt_ninD (hK : F.K = X.K) (hu : X.A.units + 65 < cLine) (ha : PE X a (tD F Ta)) (hb : PE X b (tD F Tb)) (hm : behindInMarks .NotIn b = false := by rfl) : PT X (.Compare a [.NotIn] [b] pos) (tDT F (dTest (dBin (gInD true) Ta Tb))) := by
  have o := opd_inD (F := F) true
  rw [hK] at o
  exact dt_cmp (op_ninT hu) o ha hb hm
/-! ### t.index(x), the tuple's object known -/
def idxD (d : D) (ds : List D) : Option Nat := (toPs ds).findIdx? fun z => PyData.eqv z (toP d)
def dIdx (Ta Tb : TDE) : TDE := fun ξ env Q => Ta ξ env fun x => match x with
  | .kt ds => Tb ξ env fun y => (eqOk x = true ∧ eqOk y = true) ∧ match idxD y ds with
    | some j => Q (.int (j : Nat))
    | none => False
  | _ => False
def rIdx (K : PySem.W.Frag) : V → V → Hp → VK → Prop := fun x y H Q => ∃ (a : Addr) (d : PyData) (ds : List PyData) (j : Nat), x = V.ref a ∧ Dp K H x (.tuple ds) ∧ Dp K H y d ∧
  SeqAt.shaped (.tuple ds) = true ∧ SeqAt.shaped d = true ∧ (ds.findIdx? fun z => PyData.eqv z d) = some j ∧ Q (.int (j : Nat)) H
theorem run_idx {pins : List (Addr × Obj)} {s : Shared} {σ : L2.St} {H : Hp} {x y : V} {v u : Value} {Q : VK} (hu : X.A.units + 65 < cLine) (I : L2.Inv X pins σ H s) (rx : RelV x v) (ry : RelV y u) (h : rIdx X.K x y H Q) :
    wpAny (model X.prog X.w) X.A (call (.builtin "tuple.index") [v, u]) (EP X pins σ Q) X.xe s := by
  obtain ⟨a, d, ds, j, rfl, hl, hy, sl, sd, hj, q⟩ := h
  cases rx
  obtain ⟨bs, r1⟩ := Dp.reads I d y u hy ry
  have lay := SeqAt.canLay_of_shaped sl
  cases hl with
  | tup hs ha =>
    obtain ⟨its, rv, ⟨⟨cls, dd, data, sls⟩, at_, hc, n, hdt⟩, _⟩ := I.tuple hs
    simp only at hc hdt
    subst hc hdt
    obtain ⟨as, rd⟩ := Dp.readsAll I ds _ its ha rv
    have same : its.map (SeqAt.readOf s.heap) = ds := SeqAt.readsAll_map ds its as lay rd
    obtain ⟨hjd, hit, hno⟩ := List.findIdx?_eq_some_iff_getElem.mp hj
    have el : ∀ (m : Nat) (hm : m < its.toArray.size) (hm2 : m < ds.length), SeqAt.readOf s.heap its.toArray[m] = ds[m] := by
      intro m hm hm2
      have hml : m < its.length := by simpa using hm
      have e1 : (its.map (SeqAt.readOf s.heap))[m]? = some ds[m] := by rw [same]; exact List.getElem?_eq_getElem hm2
      rw [List.getElem?_map, List.getElem?_eq_getElem hml] at e1
      simpa using Option.some.inj e1
    have len : its.length = ds.length := by rw [← same, List.length_map]
    have hja : j < its.toArray.size := by rw [List.size_toArray, len]; exact hjd
    refine call_meets PySem.F.slot_tuple_index ⟨_, at_, rfl⟩ PySem.F.entry_tuple_index (PySem.F.args_tuple_index_2 _ _)
      (TI.tuple_indexAt a its.toArray n dd sls u (fun w => PyData.eqv (SeqAt.readOf s.heap w) d) j hja ?_ ?_)
      ⟨at_, SeqAt.items_eqAt (vs := its.toArray) (show ReadsAll s.heap its.toArray.toList ds as from rd) r1 lay (SeqAt.canLay_of_shaped sd) (room_in_shaped sd hu), .int (j : Nat), H, I.tok _, ⟨_, rfl⟩, q⟩
    · show PyData.eqv (SeqAt.readOf s.heap its.toArray[j]) d = true
      rw [el j hja hjd]
      exact hit
    · intro m hm lt
      have hm2 : m < ds.length := by rw [← len]; simpa using hm
      show PyData.eqv (SeqAt.readOf s.heap its.toArray[m]) d = false
      rw [el m hm hm2]
      exact Bool.eq_false_iff.mpr (hno m lt)
def tIdx (K : PySem.W.Frag) (ta : TE) (t : TA) : TE := fun σ H Q => ta σ H fun x H1 => (∃ (a : Addr) (o : Obj) (vs : List V), x = .ref a ∧ H1 a = some (.frz o (.tup vs)) ∧ o.dict = none) ∧ t σ H1 fun ys H2 => ∃ y, ys = [y] ∧ rIdx K x y H2 Q
theorem pe_idx {o e : Expr} {to : TE} {t : TA} {apos cpos : Pos} (hu : X.A.units + 65 < cLine) (ho : PE X o to) (ha : PA X [e] t) (hbase : attributeBase o "index" X.env (eval o X.env) = eval o X.env := by rfl)
    (hfew : ((backTo cpos (starEach [e] X.env)).all (fun x => !x.1) && (backToKw cpos (keywordEach [] X.env)).all (fun x => x.1.isSome) && decide ([e].length + ([] : List Keyword).length + (if ([] : List Keyword).isEmpty then 0 else 1) < 30)) = true := by rfl)
    (hline : (apos.endLine == cpos.line) = true := by rfl) (hs : starEach [e] X.env = (false, eval e X.env) :: starEach [] X.env := by rfl) (hplain : (backTo cpos (starEach [] X.env)).any (·.1) = false := by rfl) :
    PE X (.Call (.Attribute o "index" apos) [e] [] cpos) (tIdx X.K to t) := by
  refine ⟨fun pins s σ H Q I h => wpAny_Call_method_late hbase hfew hline rfl (thn (ho.run pins s σ H _ I h) fun v s1 got => ?_)⟩
  obtain ⟨x, H1, I1, r1, ⟨a, ob, vs, rfl, hf, od⟩, q1⟩ := got
  cases r1
  obtain ⟨at_, _, its, _, o2, p2, c2, _⟩ := I1.hok a _ hf
  rw [at_] at p2
  cases p2
  refine ⟨"tuple", "tuple.index", PySem.F.plainAttrs_tuple, PySem.F.slot_tuple_index, PySem.F.type_tuple_index, ⟨_, at_, c2⟩, fun b eb => by cases eb; exact ⟨_, at_, od⟩, ?_⟩
  have args := ha.run cpos pins s1 σ H1 _ I1 q1
  rw [hs] at args ⊢
  refine Calls.callWith_builtin (by show (false || (backTo cpos (starEach [] X.env)).any (·.1)) = false; rw [hplain] <;> rfl) (Calls.evalArgs_plain (thn args fun us s2 got => ?_))
  obtain ⟨ys, H2, I2, r2, y, rfl, q2⟩ := got
  cases r2 with
  | cons ry rest =>
    cases rest
    exact run_idx (x := .ref a) hu I2 rfl ry q2
theorem d_index {o e : Expr} {apos cpos : Pos} (hK : F.K = X.K) (hu : X.A.units + 65 < cLine) (ho : PE X o (tD F Ta)) (he : PE X e (tD F Tb)) (hbase : attributeBase o "index" X.env (eval o X.env) = eval o X.env := by rfl)
    (hfew : ((backTo cpos (starEach [e] X.env)).all (fun x => !x.1) && (backToKw cpos (keywordEach [] X.env)).all (fun x => x.1.isSome) && decide ([e].length + ([] : List Keyword).length + (if ([] : List Keyword).isEmpty then 0 else 1) < 30)) = true := by rfl)
    (hline : (apos.endLine == cpos.line) = true := by rfl) (hs : starEach [e] X.env = (false, eval e X.env) :: starEach [] X.env := by rfl) (hplain : (backTo cpos (starEach [] X.env)).any (·.1) = false := by rfl) :
    PE X (.Call (.Attribute o "index" apos) [e] [] cpos) (tD F (dIdx Ta Tb)) := PE.imp (pe_idx hu ho (da_cons he da_nil hs) hbase hfew hline hs hplain) (by
  rintro σ H Q ⟨N, env, Qd, f, hT, k⟩
  refine ⟨N, env, _, f, hT, fun x H1 dx e1 r1 q1 => ?_⟩
  split at q1
  · rename_i ds
    have r0 := r1
    obtain ⟨a, vs, ob, rfl, na, hf, od, rs⟩ := r1
    have f1 := f.ext' e1
    refine ⟨⟨a, ob, vs, rfl, hf, od⟩, N, env, (fun l => match l with
      | [y] => (eqOk (.kt ds) = true ∧ eqOk y = true) ∧ match idxD y ds with
        | some j => Qd (.int (j : Nat))
        | none => False
      | _ => False), f1, q1, fun ys H2 es e2 r2 q2 => ?_⟩
    dsimp only at q2
    split at q2
    · rename_i dy
      obtain ⟨y, _, rfl, ry, z⟩ := r2
      cases z
      obtain ⟨⟨h1, h2⟩, q⟩ := q2
      split at q
      · rename_i j hj
        obtain ⟨p1, s1⟩ := Bool.and_eq_true_iff.mp h1
        obtain ⟨p2, s2⟩ := Bool.and_eq_true_iff.mp h2
        have d1 := Rep.dp (.kt ds) _ p1 (r0.ext e2 f1.n.z)
        have d2 := Rep.dp dy _ p2 ry
        rw [hK] at d1 d2
        exact ⟨y, rfl, a, toP dy, toPs ds, j, rfl, d1, d2, s1, s2, hj, k _ _ _ (e1.trans e2) rep_int q⟩
      · exact q.elim
    · exact q2.elim
  · exact q1.elim)
/-! ### is not None -/
def gNotN : G2 := fun x y Q => match y with
  | .non => Q (.bl (!isNo x))
  | _ => False
theorem opd_notN : OpD F (fun x y H Q => y = .non ∧ Q (.bl (!decide (x = .non))) H) gNotN := ⟨by
  intro N H x y dx dy Qd Q n rx ry h k
  unfold gNotN at h
  split at h
  · cases (show y = .non from ry)
    refine ⟨rfl, k _ _ _ Ext.refl rep_bl ?_⟩
    rw [isNo_rep rx]
    exact h
  · exact h.elim⟩
theorem d_notN (ha : PE X a (tD F Ta)) (hb : PE X b (tD F Tb)) (hm : behindInMarks .IsNot b = false := by rfl) : PE X (.Compare a [.IsNot] [b] pos) (tD F (dBin gNotN Ta Tb)) := d_cmp op_notN opd_notN ha hb hm
theorem dt_notN (ha : PE X a (tD F Ta)) (hb : PE X b (tD F Tb)) (hm : behindInMarks .IsNot b = false := by rfl) : PT X (.Compare a [.IsNot] [b] pos) (tDT F (dTest (dBin gNotN Ta Tb))) := dt_cmp op_notN opd_notN ha hb hm
/-! ### constants of the module -/
theorem d_gstr {x s : Str} (hg : Gl X x) (hm : ∃ t, X.mg x = some (.str s t)) (hd : (x == ("__debug__" : Str)) = false := by decide) : PE X (.Name x pos) (tD F (dC (.str s))) := by
  obtain ⟨t, hm⟩ := hm
  exact d_const (v := .str s) (pe_glob hg hm ⟨t, rfl⟩ hd) fun _ _ => rfl
theorem d_gint {x : Str} {i : Int} (hg : Gl X x) (hm : ∃ t, X.mg x = some (.int i t)) (hd : (x == ("__debug__" : Str)) = false := by decide) : PE X (.Name x pos) (tD F (dC (.int i))) := by
  obtain ⟨t, hm⟩ := hm
  exact d_const (v := .int i) (pe_glob hg hm ⟨t, rfl⟩ hd) fun _ _ => rfl
end
def gstrB (K : PySem.W.Frag) (n s : Str) : Bool := match PySem.W.nsIn K mainGlobals n with
  | some (some (.str x _)) => decide (x = s)
  | _ => false
theorem gstr_ok {K : PySem.W.Frag} {h : Heap} {mg : Str → Option Value} (X : K.In h) (G : h.Ns mainGlobals mg) {n s : Str} (c : gstrB K n s = true) : ∃ t, mg n = some (.str s t) := by
  unfold gstrB at c
  split at c
  · rename_i x t e
    cases of_decide_eq_true c
    exact ⟨t, PySem.W.mg_of X G e⟩
  · cases c
def gintB (K : PySem.W.Frag) (n : Str) (i : Int) : Bool := match PySem.W.nsIn K mainGlobals n with
  | some (some (.int x _)) => decide (x = i)
  | _ => false
theorem gint_ok {K : PySem.W.Frag} {h : Heap} {mg : Str → Option Value} (X : K.In h) (G : h.Ns mainGlobals mg) {n : Str} {i : Int} (c : gintB K n i = true) : ∃ t, mg n = some (.int i t) := by
  unfold gintB at c
  split at c
  · rename_i x t e
    cases of_decide_eq_true c
    exact ⟨t, PySem.W.mg_of X G e⟩
  · cases c
end DL
namespace DL
open PySem PySem.Spec L2
theorem u65 {k : Nat} {A : Around} (r : Room k A) : A.units + 65 < cLine := Nat.lt_of_le_of_lt (Nat.add_le_add_left (by decide) _) (units80 r)
end DL
set_option Elab.async false
set_option linter.all false
set_option maxRecDepth 100000
set_option maxHeartbeats 4000000
namespace K16
open PySem PySem.Spec L2 DL
open PyProof.Rows hiding St
def top (i : Nat) : Stmt := PySem.Challenge.pw_nevertwice_k16_whole_all_tiles_that_coul.main.body.getD i (.Pass ⟨0, 0, 0, 0⟩)
abbrev s_is_plain_integer : Stmt := top 1
abbrev s_is_direction : Stmt := top 2
abbrev s_is_tuple_of : Stmt := top 3
abbrev s_are_plain_integers : Stmt := top 4
abbrev s_with_part : Stmt := top 11
abbrev s_stepped : Stmt := top 12
abbrev s_is_row : Stmt := top 14
abbrev s_is_corner_row : Stmt := top 15
abbrev s_is_tile_row : Stmt := top 20
abbrev s_need_tile : Stmt := top 21
abbrev s_corners_of : Stmt := top 22
abbrev s_edges_of : Stmt := top 23
abbrev s_is_thick : Stmt := top 24
abbrev s_is_low : Stmt := top 25
abbrev s_marks_of : Stmt := top 26
abbrev s__place_of_edge : Stmt := top 27
abbrev s__is_left_at : Stmt := top 28
abbrev s_does_fit : Stmt := top 29
abbrev s_is_left : Stmt := top 30
abbrev s__law_deck : Stmt := top 32
abbrev s__law_draw : Stmt := top 33
abbrev s__law_pick : Stmt := top 34
abbrev s__law_integer : Stmt := top 35
abbrev s__law_same : Stmt := top 36
abbrev s__law_step : Stmt := top 37
abbrev s__law_drawn : Stmt := top 38
abbrev s__law_borders : Stmt := top 39
abbrev s__law_is_lefthand : Stmt := top 40
abbrev s__law_mark : Stmt := top 41
abbrev s__law_do_fit : Stmt := top 42
abbrev s__law_is_tile : Stmt := top 43
abbrev s__law_odd : Stmt := top 44
abbrev s__law_bent : Stmt := top 45
abbrev s__law_maybe : Stmt := top 46
abbrev s__law_told : Stmt := top 47
abbrev s__law_is_alone_right : Stmt := top 48
abbrev s__law_are_two_right : Stmt := top 49
abbrev s__law_are_neighbours_right : Stmt := top 50
abbrev s_law : Stmt := top 51
abbrev FnP (K : PySem.W.Frag) (x : Str) (st : Stmt) (f : Addr) (fd : FuncData) : Prop := FunD K x x (defArgs st) (defBody st) (defScope st) [] [] f fd
def TN : List Str := ["_law_is_alone_right", "_law_are_two_right"]
abbrev i_BadEdge : Stmt := initOf (top 9)
abbrev i_BadTile : Stmt := initOf (top 8)
structure Tx (K : PySem.W.Frag) (mg : Str → Option Value) where
  a_is_plain_integer : Addr
  d_is_plain_integer : FuncData
  F_is_plain_integer : FnP K "is_plain_integer" s_is_plain_integer a_is_plain_integer d_is_plain_integer
  m_is_plain_integer : mg "is_plain_integer" = some (.ref a_is_plain_integer)
  a_is_direction : Addr
  d_is_direction : FuncData
  F_is_direction : FnP K "is_direction" s_is_direction a_is_direction d_is_direction
  m_is_direction : mg "is_direction" = some (.ref a_is_direction)
  a_is_tuple_of : Addr
  d_is_tuple_of : FuncData
  F_is_tuple_of : FnP K "is_tuple_of" s_is_tuple_of a_is_tuple_of d_is_tuple_of
  m_is_tuple_of : mg "is_tuple_of" = some (.ref a_is_tuple_of)
  a_are_plain_integers : Addr
  d_are_plain_integers : FuncData
  F_are_plain_integers : FnP K "are_plain_integers" s_are_plain_integers a_are_plain_integers d_are_plain_integers
  m_are_plain_integers : mg "are_plain_integers" = some (.ref a_are_plain_integers)
  a_with_part : Addr
  d_with_part : FuncData
  F_with_part : FnP K "with_part" s_with_part a_with_part d_with_part
  m_with_part : mg "with_part" = some (.ref a_with_part)
  a_stepped : Addr
  d_stepped : FuncData
  F_stepped : FnP K "stepped" s_stepped a_stepped d_stepped
  m_stepped : mg "stepped" = some (.ref a_stepped)
  a_is_row : Addr
  d_is_row : FuncData
  F_is_row : FnP K "is_row" s_is_row a_is_row d_is_row
  m_is_row : mg "is_row" = some (.ref a_is_row)
  a_is_corner_row : Addr
  d_is_corner_row : FuncData
  F_is_corner_row : FnP K "is_corner_row" s_is_corner_row a_is_corner_row d_is_corner_row
  m_is_corner_row : mg "is_corner_row" = some (.ref a_is_corner_row)
  a_is_tile_row : Addr
  d_is_tile_row : FuncData
  F_is_tile_row : FnP K "is_tile_row" s_is_tile_row a_is_tile_row d_is_tile_row
  m_is_tile_row : mg "is_tile_row" = some (.ref a_is_tile_row)
  a_need_tile : Addr
  d_need_tile : FuncData
  F_need_tile : FnP K "need_tile" s_need_tile a_need_tile d_need_tile
  m_need_tile : mg "need_tile" = some (.ref a_need_tile)
  a_corners_of : Addr
  d_corners_of : FuncData
  F_corners_of : FnP K "corners_of" s_corners_of a_corners_of d_corners_of
  m_corners_of : mg "corners_of" = some (.ref a_corners_of)
  a_edges_of : Addr
  d_edges_of : FuncData
  F_edges_of : FnP K "edges_of" s_edges_of a_edges_of d_edges_of
  m_edges_of : mg "edges_of" = some (.ref a_edges_of)
  a_is_thick : Addr
  d_is_thick : FuncData
  F_is_thick : FnP K "is_thick" s_is_thick a_is_thick d_is_thick
  m_is_thick : mg "is_thick" = some (.ref a_is_thick)
  a_is_low : Addr
  d_is_low : FuncData
  F_is_low : FnP K "is_low" s_is_low a_is_low d_is_low
  m_is_low : mg "is_low" = some (.ref a_is_low)
  a_marks_of : Addr
  d_marks_of : FuncData
  F_marks_of : FnP K "marks_of" s_marks_of a_marks_of d_marks_of
  m_marks_of : mg "marks_of" = some (.ref a_marks_of)
  a__place_of_edge : Addr
  d__place_of_edge : FuncData
  F__place_of_edge : FnP K "_place_of_edge" s__place_of_edge a__place_of_edge d__place_of_edge
  m__place_of_edge : mg "_place_of_edge" = some (.ref a__place_of_edge)
  a__is_left_at : Addr
  d__is_left_at : FuncData
  F__is_left_at : FnP K "_is_left_at" s__is_left_at a__is_left_at d__is_left_at
  m__is_left_at : mg "_is_left_at" = some (.ref a__is_left_at)
  a_does_fit : Addr
  d_does_fit : FuncData
  F_does_fit : FnP K "does_fit" s_does_fit a_does_fit d_does_fit
  m_does_fit : mg "does_fit" = some (.ref a_does_fit)
  a_is_left : Addr
  d_is_left : FuncData
  F_is_left : FnP K "is_left" s_is_left a_is_left d_is_left
  m_is_left : mg "is_left" = some (.ref a_is_left)
  a__law_deck : Addr
  d__law_deck : FuncData
  F__law_deck : FnP K "_law_deck" s__law_deck a__law_deck d__law_deck
  m__law_deck : mg "_law_deck" = some (.ref a__law_deck)
  a__law_draw : Addr
  d__law_draw : FuncData
  F__law_draw : FnP K "_law_draw" s__law_draw a__law_draw d__law_draw
  m__law_draw : mg "_law_draw" = some (.ref a__law_draw)
  a__law_pick : Addr
  d__law_pick : FuncData
  F__law_pick : FnP K "_law_pick" s__law_pick a__law_pick d__law_pick
  m__law_pick : mg "_law_pick" = some (.ref a__law_pick)
  a__law_integer : Addr
  d__law_integer : FuncData
  F__law_integer : FnP K "_law_integer" s__law_integer a__law_integer d__law_integer
  m__law_integer : mg "_law_integer" = some (.ref a__law_integer)
  a__law_same : Addr
  d__law_same : FuncData
  F__law_same : FnP K "_law_same" s__law_same a__law_same d__law_same
  m__law_same : mg "_law_same" = some (.ref a__law_same)
  a__law_step : Addr
  d__law_step : FuncData
  F__law_step : FnP K "_law_step" s__law_step a__law_step d__law_step
  m__law_step : mg "_law_step" = some (.ref a__law_step)
  a__law_drawn : Addr
  d__law_drawn : FuncData
  F__law_drawn : FnP K "_law_drawn" s__law_drawn a__law_drawn d__law_drawn
  m__law_drawn : mg "_law_drawn" = some (.ref a__law_drawn)
  a__law_borders : Addr
  d__law_borders : FuncData
  F__law_borders : FnP K "_law_borders" s__law_borders a__law_borders d__law_borders
  m__law_borders : mg "_law_borders" = some (.ref a__law_borders)
  a__law_is_lefthand : Addr
  d__law_is_lefthand : FuncData
  F__law_is_lefthand : FnP K "_law_is_lefthand" s__law_is_lefthand a__law_is_lefthand d__law_is_lefthand
  m__law_is_lefthand : mg "_law_is_lefthand" = some (.ref a__law_is_lefthand)
  a__law_mark : Addr
  d__law_mark : FuncData
  F__law_mark : FnP K "_law_mark" s__law_mark a__law_mark d__law_mark
  m__law_mark : mg "_law_mark" = some (.ref a__law_mark)
  a__law_do_fit : Addr
  d__law_do_fit : FuncData
  F__law_do_fit : FnP K "_law_do_fit" s__law_do_fit a__law_do_fit d__law_do_fit
  m__law_do_fit : mg "_law_do_fit" = some (.ref a__law_do_fit)
  a__law_is_tile : Addr
  d__law_is_tile : FuncData
  F__law_is_tile : FnP K "_law_is_tile" s__law_is_tile a__law_is_tile d__law_is_tile
  m__law_is_tile : mg "_law_is_tile" = some (.ref a__law_is_tile)
  a__law_odd : Addr
  d__law_odd : FuncData
  F__law_odd : FnP K "_law_odd" s__law_odd a__law_odd d__law_odd
  m__law_odd : mg "_law_odd" = some (.ref a__law_odd)
  a__law_bent : Addr
  d__law_bent : FuncData
  F__law_bent : FnP K "_law_bent" s__law_bent a__law_bent d__law_bent
  m__law_bent : mg "_law_bent" = some (.ref a__law_bent)
  a__law_maybe : Addr
  d__law_maybe : FuncData
  F__law_maybe : FnP K "_law_maybe" s__law_maybe a__law_maybe d__law_maybe
  m__law_maybe : mg "_law_maybe" = some (.ref a__law_maybe)
  a__law_told : Addr
  d__law_told : FuncData
  F__law_told : FnP K "_law_told" s__law_told a__law_told d__law_told
  m__law_told : mg "_law_told" = some (.ref a__law_told)
  a__law_is_alone_right : Addr
  d__law_is_alone_right : FuncData
  F__law_is_alone_right : FnP K "_law_is_alone_right" s__law_is_alone_right a__law_is_alone_right d__law_is_alone_right
  m__law_is_alone_right : mg "_law_is_alone_right" = some (.ref a__law_is_alone_right)
  a__law_are_two_right : Addr
  d__law_are_two_right : FuncData
  F__law_are_two_right : FnP K "_law_are_two_right" s__law_are_two_right a__law_are_two_right d__law_are_two_right
  m__law_are_two_right : mg "_law_are_two_right" = some (.ref a__law_are_two_right)
  a__law_are_neighbours_right : Addr
  d__law_are_neighbours_right : FuncData
  F__law_are_neighbours_right : FnP K "_law_are_neighbours_right" s__law_are_neighbours_right a__law_are_neighbours_right d__law_are_neighbours_right
  m__law_are_neighbours_right : mg "_law_are_neighbours_right" = some (.ref a__law_are_neighbours_right)
  a_law : Addr
  d_law : FuncData
  F_law : FnP K "law" s_law a_law d_law
  m_law : mg "law" = some (.ref a_law)
  n_all : mg "all" = none
  n_bool : mg "bool" = none
  n_enumerate : mg "enumerate" = none
  n_int : mg "int" = none
  n_isinstance : mg "isinstance" = none
  n_len : mg "len" = none
  n_list : mg "list" = none
  n_max : mg "max" = none
  n_min : mg "min" = none
  n_range : mg "range" = none
  n_repr : mg "repr" = none
  n_str : mg "str" = none
  n_sum : mg "sum" = none
  n_tuple : mg "tuple" = none
  k_DOWN : ∃ t, mg "DOWN" = some (.str "down" t)
  k_OUTER : ∃ t, mg "OUTER" = some (.str "outer" t)
  k_UP : ∃ t, mg "UP" = some (.str "up" t)
  mx : mxB K = true
  sm : smB K = true
  c_BadEdge : Addr
  f_BadEdge : Addr
  X_BadEdge : ExF K mg "BadEdge" "thing" c_BadEdge f_BadEdge
  j_BadEdge : FuncData
  G_BadEdge : FunD K "__init__" "BadEdge.__init__" (defArgs i_BadEdge) (defBody i_BadEdge) (defScope i_BadEdge) [] [] f_BadEdge j_BadEdge
  S_BadEdge : ∃ C, clsAt K "BadEdge" = .ref C ∧ ExIs K C
  c_BadTile : Addr
  f_BadTile : Addr
  X_BadTile : ExF K mg "BadTile" "thing" c_BadTile f_BadTile
  j_BadTile : FuncData
  G_BadTile : FunD K "__init__" "BadTile.__init__" (defArgs i_BadTile) (defBody i_BadTile) (defScope i_BadTile) [] [] f_BadTile j_BadTile
  S_BadTile : ∃ C, clsAt K "BadTile" = .ref C ∧ ExIs K C
  r_BadCorner : Addr
  R_BadCorner : clsAt K "BadCorner" = .ref r_BadCorner ∧ mg "BadCorner" = some (.ref r_BadCorner)
  r_BadEdge : Addr
  R_BadEdge : clsAt K "BadEdge" = .ref r_BadEdge ∧ mg "BadEdge" = some (.ref r_BadEdge)
  r_BadTile : Addr
  R_BadTile : clsAt K "BadTile" = .ref r_BadTile ∧ mg "BadTile" = some (.ref r_BadTile)
  r_FloorError : Addr
  R_FloorError : clsAt K "FloorError" = .ref r_FloorError ∧ mg "FloorError" = some (.ref r_FloorError)
  e_BadEdge_BadEdge : PySem.W.exmOne K (clsAt K "BadEdge") (clsAt K "BadEdge") = some true
  e_BadTile_BadEdge : PySem.W.exmOne K (clsAt K "BadTile") (clsAt K "BadEdge") = some false
  e_BadEdge_BadTile : PySem.W.exmOne K (clsAt K "BadEdge") (clsAt K "BadTile") = some false
  e_BadTile_BadTile : PySem.W.exmOne K (clsAt K "BadTile") (clsAt K "BadTile") = some true
  e_BadEdge_FloorError : PySem.W.exmOne K (clsAt K "BadEdge") (clsAt K "FloorError") = some true
  e_BadTile_FloorError : PySem.W.exmOne K (clsAt K "BadTile") (clsAt K "FloorError") = some true
  k_BadEdge_BadCorner : PySem.W.kitOne K (clsAt K "BadEdge") (clsAt K "BadCorner") = some false
  k_BadTile_BadCorner : PySem.W.kitOne K (clsAt K "BadTile") (clsAt K "BadCorner") = some false
  k_BadEdge_BadEdge : PySem.W.kitOne K (clsAt K "BadEdge") (clsAt K "BadEdge") = some true
  k_BadTile_BadEdge : PySem.W.kitOne K (clsAt K "BadTile") (clsAt K "BadEdge") = some false
  k_BadEdge_BadTile : PySem.W.kitOne K (clsAt K "BadEdge") (clsAt K "BadTile") = some false
  k_BadTile_BadTile : PySem.W.kitOne K (clsAt K "BadTile") (clsAt K "BadTile") = some true
  k_BadEdge_FloorError : PySem.W.kitOne K (clsAt K "BadEdge") (clsAt K "FloorError") = some true
  k_BadTile_FloorError : PySem.W.kitOne K (clsAt K "BadTile") (clsAt K "FloorError") = some true
  T__law_is_alone_right : TabF K "_law_is_alone_right"
  E__law_is_alone_right : a__law_is_alone_right = He.fAd K ("_law_is_alone_right", none)
  T__law_are_two_right : TabF K "_law_are_two_right"
  E__law_are_two_right : a__law_are_two_right = He.fAd K ("_law_are_two_right", none)
section
variable {P : Program} {w : World} {K : PySem.W.Frag} {mg : Str → Option Value} {base : Heap}
theorem it_BadEdge : InitTx "thing" (defBody i_BadEdge) (defScope i_BadEdge) := ⟨⟨_, _, _, _, rfl⟩, rfl, rfl, rfl, rfl, rfl, by decide, by decide, by decide⟩
theorem bi_BadEdge (t : Tx K mg) : Binds K t.j_BadEdge ["self", "thing"] [] := t.G_BadEdge.bindsN fun _ _ _ _ _ _ us hl => match us, hl with | [_, _], _ => rfl
theorem it_BadTile : InitTx "thing" (defBody i_BadTile) (defScope i_BadTile) := ⟨⟨_, _, _, _, rfl⟩, rfl, rfl, rfl, rfl, rfl, by decide, by decide, by decide⟩
theorem bi_BadTile (t : Tx K mg) : Binds K t.j_BadTile ["self", "thing"] [] := t.G_BadTile.bindsN fun _ _ _ _ _ _ us hl => match us, hl with | [_, _], _ => rfl
def mm_BadEdge (n : Str) : Option Bool := if n = "BadEdge" then some true else if n = "BadTile" then some false else none
theorem hm_BadEdge (t : Tx K mg) : ∀ n b, mm_BadEdge n = some b → PySem.W.exmOne K (clsAt K n) (.ref t.r_BadEdge) = some b := by
  intro n b h
  rw [← t.R_BadEdge.1]
  unfold mm_BadEdge at h
  split at h
  · rename_i e
    subst e
    cases h
    exact t.e_BadEdge_BadEdge
  split at h
  · rename_i e
    subst e
    cases h
    exact t.e_BadTile_BadEdge
  cases h
theorem xf_BadEdge (t : Tx K mg) {n : Str} (h : mm_BadEdge n = some true) : ∃ C, clsAt K n = .ref C ∧ XfC K C ∧ PySem.W.findIn K (.ref C) "thing" = some none := by
  unfold mm_BadEdge at h
  split at h
  · rename_i e
    subst e
    exact ⟨_, t.X_BadEdge.at_, t.X_BadEdge.xf, t.X_BadEdge.no⟩
  split at h
  · rename_i e
    subst e
    exact ⟨_, t.X_BadTile.at_, t.X_BadTile.xf, t.X_BadTile.no⟩
  cases h
theorem es_BadEdge (t : Tx K mg) {n : Str} (h : mm_BadEdge n = some true) : ∃ C, clsAt K n = .ref C ∧ ExIs K C := by
  unfold mm_BadEdge at h
  split at h
  · rename_i e
    subst e
    exact t.S_BadEdge
  split at h
  · rename_i e
    subst e
    exact t.S_BadTile
  cases h
def mm_BadTile (n : Str) : Option Bool := if n = "BadEdge" then some false else if n = "BadTile" then some true else none
theorem hm_BadTile (t : Tx K mg) : ∀ n b, mm_BadTile n = some b → PySem.W.exmOne K (clsAt K n) (.ref t.r_BadTile) = some b := by
  intro n b h
  rw [← t.R_BadTile.1]
  unfold mm_BadTile at h
  split at h
  · rename_i e
    subst e
    cases h
    exact t.e_BadEdge_BadTile
  split at h
  · rename_i e
    subst e
    cases h
    exact t.e_BadTile_BadTile
  cases h
theorem xf_BadTile (t : Tx K mg) {n : Str} (h : mm_BadTile n = some true) : ∃ C, clsAt K n = .ref C ∧ XfC K C ∧ PySem.W.findIn K (.ref C) "thing" = some none := by
  unfold mm_BadTile at h
  split at h
  · rename_i e
    subst e
    exact ⟨_, t.X_BadEdge.at_, t.X_BadEdge.xf, t.X_BadEdge.no⟩
  split at h
  · rename_i e
    subst e
    exact ⟨_, t.X_BadTile.at_, t.X_BadTile.xf, t.X_BadTile.no⟩
  cases h
theorem es_BadTile (t : Tx K mg) {n : Str} (h : mm_BadTile n = some true) : ∃ C, clsAt K n = .ref C ∧ ExIs K C := by
  unfold mm_BadTile at h
  split at h
  · rename_i e
    subst e
    exact t.S_BadEdge
  split at h
  · rename_i e
    subst e
    exact t.S_BadTile
  cases h
def mm_FloorError (n : Str) : Option Bool := if n = "BadEdge" then some true else if n = "BadTile" then some true else none
theorem hm_FloorError (t : Tx K mg) : ∀ n b, mm_FloorError n = some b → PySem.W.exmOne K (clsAt K n) (.ref t.r_FloorError) = some b := by
  intro n b h
  rw [← t.R_FloorError.1]
  unfold mm_FloorError at h
  split at h
  · rename_i e
    subst e
    cases h
    exact t.e_BadEdge_FloorError
  split at h
  · rename_i e
    subst e
    cases h
    exact t.e_BadTile_FloorError
  cases h
def is_BadCorner (n : Str) : Option Bool := if n = "BadEdge" then some false else if n = "BadTile" then some false else none
theorem kt_BadCorner (t : Tx K mg) : ∀ n b, is_BadCorner n = some b → PySem.W.kitOne K (clsAt K n) (.ref t.r_BadCorner) = some b := by
  intro n b h
  rw [← t.R_BadCorner.1]
  unfold is_BadCorner at h
  split at h
  · rename_i e
    subst e
    cases h
    exact t.k_BadEdge_BadCorner
  split at h
  · rename_i e
    subst e
    cases h
    exact t.k_BadTile_BadCorner
  cases h
def is_BadEdge (n : Str) : Option Bool := if n = "BadEdge" then some true else if n = "BadTile" then some false else none
theorem kt_BadEdge (t : Tx K mg) : ∀ n b, is_BadEdge n = some b → PySem.W.kitOne K (clsAt K n) (.ref t.r_BadEdge) = some b := by
  intro n b h
  rw [← t.R_BadEdge.1]
  unfold is_BadEdge at h
  split at h
  · rename_i e
    subst e
    cases h
    exact t.k_BadEdge_BadEdge
  split at h
  · rename_i e
    subst e
    cases h
    exact t.k_BadTile_BadEdge
  cases h
def is_BadTile (n : Str) : Option Bool := if n = "BadEdge" then some false else if n = "BadTile" then some true else none
theorem kt_BadTile (t : Tx K mg) : ∀ n b, is_BadTile n = some b → PySem.W.kitOne K (clsAt K n) (.ref t.r_BadTile) = some b := by
  intro n b h
  rw [← t.R_BadTile.1]
  unfold is_BadTile at h
  split at h
  · rename_i e
    subst e
    cases h
    exact t.k_BadEdge_BadTile
  split at h
  · rename_i e
    subst e
    cases h
    exact t.k_BadTile_BadTile
  cases h
def is_FloorError (n : Str) : Option Bool := if n = "BadEdge" then some true else if n = "BadTile" then some true else none
theorem kt_FloorError (t : Tx K mg) : ∀ n b, is_FloorError n = some b → PySem.W.kitOne K (clsAt K n) (.ref t.r_FloorError) = some b := by
  intro n b h
  rw [← t.R_FloorError.1]
  unfold is_FloorError at h
  split at h
  · rename_i e
    subst e
    cases h
    exact t.k_BadEdge_FloorError
  split at h
  · rename_i e
    subst e
    cases h
    exact t.k_BadTile_FloorError
  cases h
theorem sc_is_plain_integer : FnScope ["thing"] ["thing"] (defScope s_is_plain_integer) := ⟨rfl, rfl, rfl, by decide +kernel, rfl, by decide +kernel, by decide +kernel⟩
theorem b_is_plain_integer (t : Tx K mg) : Binds K t.d_is_plain_integer ["thing"] [] := t.F_is_plain_integer.bindsN fun _ _ _ _ _ _ us hl => match us, hl with | [_], _ => rfl
theorem sc_is_direction : FnScope ["thing"] ["thing"] (defScope s_is_direction) := ⟨rfl, rfl, rfl, by decide +kernel, rfl, by decide +kernel, by decide +kernel⟩
theorem b_is_direction (t : Tx K mg) : Binds K t.d_is_direction ["thing"] [] := t.F_is_direction.bindsN fun _ _ _ _ _ _ us hl => match us, hl with | [_], _ => rfl
theorem sc_is_tuple_of : FnScope ["thing", "many"] ["thing", "many"] (defScope s_is_tuple_of) := ⟨rfl, rfl, rfl, by decide +kernel, rfl, by decide +kernel, by decide +kernel⟩
theorem b_is_tuple_of (t : Tx K mg) : Binds K t.d_is_tuple_of ["thing", "many"] [] := t.F_is_tuple_of.bindsN fun _ _ _ _ _ _ us hl => match us, hl with | [_, _], _ => rfl
theorem sc_are_plain_integers : FnScope ["thing", "many", "part"] ["thing", "many"] (defScope s_are_plain_integers) := ⟨rfl, rfl, rfl, by decide +kernel, rfl, by decide +kernel, by decide +kernel⟩
theorem b_are_plain_integers (t : Tx K mg) : Binds K t.d_are_plain_integers ["thing", "many"] [] := t.F_are_plain_integers.bindsN fun _ _ _ _ _ _ us hl => match us, hl with | [_, _], _ => rfl
theorem sc_with_part : FnScope ["five", "direction", "part"] ["five", "direction", "part"] (defScope s_with_part) := ⟨rfl, rfl, rfl, by decide +kernel, rfl, by decide +kernel, by decide +kernel⟩
theorem b_with_part (t : Tx K mg) : Binds K t.d_with_part ["five", "direction", "part"] [] := t.F_with_part.bindsN fun _ _ _ _ _ _ us hl => match us, hl with | [_, _, _], _ => rfl
theorem sc_stepped : FnScope ["row", "direction", "by"] ["row", "direction", "by"] (defScope s_stepped) := ⟨rfl, rfl, rfl, by decide +kernel, rfl, by decide +kernel, by decide +kernel⟩
theorem b_stepped (t : Tx K mg) : Binds K t.d_stepped ["row", "direction", "by"] [] := t.F_stepped.bindsN fun _ _ _ _ _ _ us hl => match us, hl with | [_, _, _], _ => rfl
theorem sc_is_row : FnScope ["thing"] ["thing"] (defScope s_is_row) := ⟨rfl, rfl, rfl, by decide +kernel, rfl, by decide +kernel, by decide +kernel⟩
theorem b_is_row (t : Tx K mg) : Binds K t.d_is_row ["thing"] [] := t.F_is_row.bindsN fun _ _ _ _ _ _ us hl => match us, hl with | [_], _ => rfl
theorem sc_is_corner_row : FnScope ["thing"] ["thing"] (defScope s_is_corner_row) := ⟨rfl, rfl, rfl, by decide +kernel, rfl, by decide +kernel, by decide +kernel⟩
theorem b_is_corner_row (t : Tx K mg) : Binds K t.d_is_corner_row ["thing"] [] := t.F_is_corner_row.bindsN fun _ _ _ _ _ _ us hl => match us, hl with | [_], _ => rfl
theorem sc_is_tile_row : FnScope ["thing"] ["thing"] (defScope s_is_tile_row) := ⟨rfl, rfl, rfl, by decide +kernel, rfl, by decide +kernel, by decide +kernel⟩
theorem b_is_tile_row (t : Tx K mg) : Binds K t.d_is_tile_row ["thing"] [] := t.F_is_tile_row.bindsN fun _ _ _ _ _ _ us hl => match us, hl with | [_], _ => rfl
theorem sc_need_tile : FnScope ["thing"] ["thing"] (defScope s_need_tile) := ⟨rfl, rfl, rfl, by decide +kernel, rfl, by decide +kernel, by decide +kernel⟩
theorem b_need_tile (t : Tx K mg) : Binds K t.d_need_tile ["thing"] [] := t.F_need_tile.bindsN fun _ _ _ _ _ _ us hl => match us, hl with | [_], _ => rfl
theorem sc_corners_of : FnScope ["tile", "foot", "r", "s", "beside"] ["tile"] (defScope s_corners_of) := ⟨rfl, rfl, rfl, by decide +kernel, rfl, by decide +kernel, by decide +kernel⟩
theorem b_corners_of (t : Tx K mg) : Binds K t.d_corners_of ["tile"] [] := t.F_corners_of.bindsN fun _ _ _ _ _ _ us hl => match us, hl with | [_], _ => rfl
theorem sc_edges_of : FnScope ["tile", "foot", "r", "s"] ["tile"] (defScope s_edges_of) := ⟨rfl, rfl, rfl, by decide +kernel, rfl, by decide +kernel, by decide +kernel⟩
theorem b_edges_of (t : Tx K mg) : Binds K t.d_edges_of ["tile"] [] := t.F_edges_of.bindsN fun _ _ _ _ _ _ us hl => match us, hl with | [_], _ => rfl
theorem sc_is_thick : FnScope ["tile"] ["tile"] (defScope s_is_thick) := ⟨rfl, rfl, rfl, by decide +kernel, rfl, by decide +kernel, by decide +kernel⟩
theorem b_is_thick (t : Tx K mg) : Binds K t.d_is_thick ["tile"] [] := t.F_is_thick.bindsN fun _ _ _ _ _ _ us hl => match us, hl with | [_], _ => rfl
theorem sc_is_low : FnScope ["tile"] ["tile"] (defScope s_is_low) := ⟨rfl, rfl, rfl, by decide +kernel, rfl, by decide +kernel, by decide +kernel⟩
theorem b_is_low (t : Tx K mg) : Binds K t.d_is_low ["tile"] [] := t.F_is_low.bindsN fun _ _ _ _ _ _ us hl => match us, hl with | [_], _ => rfl
theorem sc_marks_of : FnScope ["tile", "inner"] ["tile"] (defScope s_marks_of) := ⟨rfl, rfl, rfl, by decide +kernel, rfl, by decide +kernel, by decide +kernel⟩
theorem b_marks_of (t : Tx K mg) : Binds K t.d_marks_of ["tile"] [] := t.F_marks_of.bindsN fun _ _ _ _ _ _ us hl => match us, hl with | [_], _ => rfl
theorem sc__place_of_edge : FnScope ["tile", "thing", "edges"] ["tile", "thing"] (defScope s__place_of_edge) := ⟨rfl, rfl, rfl, by decide +kernel, rfl, by decide +kernel, by decide +kernel⟩
theorem b__place_of_edge (t : Tx K mg) : Binds K t.d__place_of_edge ["tile", "thing"] [] := t.F__place_of_edge.bindsN fun _ _ _ _ _ _ us hl => match us, hl with | [_, _], _ => rfl
theorem sc__is_left_at : FnScope ["tile", "place", "_", "r", "s", "is_along_r", "gap"] ["tile", "place"] (defScope s__is_left_at) := ⟨rfl, rfl, rfl, by decide +kernel, rfl, by decide +kernel, by decide +kernel⟩
theorem b__is_left_at (t : Tx K mg) : Binds K t.d__is_left_at ["tile", "place"] [] := t.F__is_left_at.bindsN fun _ _ _ _ _ _ us hl => match us, hl with | [_, _], _ => rfl
theorem sc_does_fit : FnScope ["one", "other", "place", "edge", "other_place", "do_marks_meet"] ["one", "other"] (defScope s_does_fit) := ⟨rfl, rfl, rfl, by decide +kernel, rfl, by decide +kernel, by decide +kernel⟩
theorem b_does_fit (t : Tx K mg) : Binds K t.d_does_fit ["one", "other"] [] := t.F_does_fit.bindsN fun _ _ _ _ _ _ us hl => match us, hl with | [_, _], _ => rfl
theorem sc_is_left : FnScope ["tile", "edge", "place"] ["tile", "edge"] (defScope s_is_left) := ⟨rfl, rfl, rfl, by decide +kernel, rfl, by decide +kernel, by decide +kernel⟩
theorem b_is_left (t : Tx K mg) : Binds K t.d_is_left ["tile", "edge"] [] := t.F_is_left.bindsN fun _ _ _ _ _ _ us hl => match us, hl with | [_, _], _ => rfl
theorem sc__law_deck : FnScope ["_law_script", "_law_mixed", "_law_cell"] ["_law_script"] (defScope s__law_deck) := ⟨rfl, rfl, rfl, by decide +kernel, rfl, by decide +kernel, by decide +kernel⟩
theorem b__law_deck (t : Tx K mg) : Binds K t.d__law_deck ["_law_script"] [] := t.F__law_deck.bindsN fun _ _ _ _ _ _ us hl => match us, hl with | [_], _ => rfl
theorem sc__law_draw : FnScope ["_law_deck_here", "_law_many", "_law_figure", "_law_cell"] ["_law_deck_here", "_law_many"] (defScope s__law_draw) := ⟨rfl, rfl, rfl, by decide +kernel, rfl, by decide +kernel, by decide +kernel⟩
theorem b__law_draw (t : Tx K mg) : Binds K t.d__law_draw ["_law_deck_here", "_law_many"] [] := t.F__law_draw.bindsN fun _ _ _ _ _ _ us hl => match us, hl with | [_, _], _ => rfl
theorem sc__law_pick : FnScope ["_law_deck_here", "_law_some"] ["_law_deck_here", "_law_some"] (defScope s__law_pick) := ⟨rfl, rfl, rfl, by decide +kernel, rfl, by decide +kernel, by decide +kernel⟩
theorem b__law_pick (t : Tx K mg) : Binds K t.d__law_pick ["_law_deck_here", "_law_some"] [] := t.F__law_pick.bindsN fun _ _ _ _ _ _ us hl => match us, hl with | [_, _], _ => rfl
theorem sc__law_integer : FnScope ["_law_deck_here", "_law_pieces", "_law_way", "_law_facing", "_law_found", "_law_piece"] ["_law_deck_here", "_law_pieces"] (defScope s__law_integer) := ⟨rfl, rfl, rfl, by decide +kernel, rfl, by decide +kernel, by decide +kernel⟩
theorem b__law_integer (t : Tx K mg) : Binds K t.d__law_integer ["_law_deck_here", "_law_pieces"] [] := t.F__law_integer.bindsN fun _ _ _ _ _ _ us hl => match us, hl with | [_, _], _ => rfl
theorem sc__law_same : FnScope ["_law_told_here", "_law_due"] ["_law_told_here", "_law_due"] (defScope s__law_same) := ⟨rfl, rfl, rfl, by decide +kernel, rfl, by decide +kernel, by decide +kernel⟩
theorem b__law_same (t : Tx K mg) : Binds K t.d__law_same ["_law_told_here", "_law_due"] [] := t.F__law_same.bindsN fun _ _ _ _ _ _ us hl => match us, hl with | [_, _], _ => rfl
theorem sc__law_step : FnScope ["_law_k", "_law_r", "_law_many"] ["_law_k", "_law_r", "_law_many"] (defScope s__law_step) := ⟨rfl, rfl, rfl, by decide +kernel, rfl, by decide +kernel, by decide +kernel⟩
theorem b__law_step (t : Tx K mg) : Binds K t.d__law_step ["_law_k", "_law_r", "_law_many"] [] := t.F__law_step.bindsN fun _ _ _ _ _ _ us hl => match us, hl with | [_, _, _], _ => rfl
theorem sc__law_drawn : FnScope ["_law_deck_here", "_law_found", "_law_at", "_law_r", "_law_j", "_law_s"] ["_law_deck_here"] (defScope s__law_drawn) := ⟨rfl, rfl, rfl, by decide +kernel, rfl, by decide +kernel, by decide +kernel⟩
theorem b__law_drawn (t : Tx K mg) : Binds K t.d__law_drawn ["_law_deck_here"] [] := t.F__law_drawn.bindsN fun _ _ _ _ _ _ us hl => match us, hl with | [_], _ => rfl
theorem sc__law_borders : FnScope ["_law_rhomb", "_law_k", "_law_r", "_law_s"] ["_law_rhomb"] (defScope s__law_borders) := ⟨rfl, rfl, rfl, by decide +kernel, rfl, by decide +kernel, by decide +kernel⟩
theorem b__law_borders (t : Tx K mg) : Binds K t.d__law_borders ["_law_rhomb"] [] := t.F__law_borders.bindsN fun _ _ _ _ _ _ us hl => match us, hl with | [_], _ => rfl
theorem sc__law_is_lefthand : FnScope ["_law_j", "_law_beside", "_law_is_up", "_law_reach"] ["_law_j", "_law_beside", "_law_is_up"] (defScope s__law_is_lefthand) := ⟨rfl, rfl, rfl, by decide +kernel, rfl, by decide +kernel, by decide +kernel⟩
theorem b__law_is_lefthand (t : Tx K mg) : Binds K t.d__law_is_lefthand ["_law_j", "_law_beside", "_law_is_up"] [] := t.F__law_is_lefthand.bindsN fun _ _ _ _ _ _ us hl => match us, hl with | [_, _, _], _ => rfl
theorem sc__law_mark : FnScope ["_law_rhomb", "_law_edge"] ["_law_rhomb", "_law_edge"] (defScope s__law_mark) := ⟨rfl, rfl, rfl, by decide +kernel, rfl, by decide +kernel, by decide +kernel⟩
theorem b__law_mark (t : Tx K mg) : Binds K t.d__law_mark ["_law_rhomb", "_law_edge"] [] := t.F__law_mark.bindsN fun _ _ _ _ _ _ us hl => match us, hl with | [_, _], _ => rfl
theorem sc__law_do_fit : FnScope ["_law_near", "_law_far", "_law_others", "_law_edge", "_law_beside", "_law_is_up", "_law_it", "_law_one", "_law_other"] ["_law_near", "_law_far"] (defScope s__law_do_fit) := ⟨rfl, rfl, rfl, by decide +kernel, rfl, by decide +kernel, by decide +kernel⟩
theorem b__law_do_fit (t : Tx K mg) : Binds K t.d__law_do_fit ["_law_near", "_law_far"] [] := t.F__law_do_fit.bindsN fun _ _ _ _ _ _ us hl => match us, hl with | [_, _], _ => rfl
theorem sc__law_is_tile : FnScope ["_law_thing", "_law_it"] ["_law_thing"] (defScope s__law_is_tile) := ⟨rfl, rfl, rfl, by decide +kernel, rfl, by decide +kernel, by decide +kernel⟩
theorem b__law_is_tile (t : Tx K mg) : Binds K t.d__law_is_tile ["_law_thing"] [] := t.F__law_is_tile.bindsN fun _ _ _ _ _ _ us hl => match us, hl with | [_], _ => rfl
theorem sc__law_odd : FnScope ["_law_deck_here", "_law_it", "_law_some"] ["_law_deck_here", "_law_it"] (defScope s__law_odd) := ⟨rfl, rfl, rfl, by decide +kernel, rfl, by decide +kernel, by decide +kernel⟩
theorem b__law_odd (t : Tx K mg) : Binds K t.d__law_odd ["_law_deck_here", "_law_it"] [] := t.F__law_odd.bindsN fun _ _ _ _ _ _ us hl => match us, hl with | [_, _], _ => rfl
theorem sc__law_bent : FnScope ["_law_deck_here", "_law_it", "_law_at"] ["_law_deck_here", "_law_it"] (defScope s__law_bent) := ⟨rfl, rfl, rfl, by decide +kernel, rfl, by decide +kernel, by decide +kernel⟩
theorem b__law_bent (t : Tx K mg) : Binds K t.d__law_bent ["_law_deck_here", "_law_it"] [] := t.F__law_bent.bindsN fun _ _ _ _ _ _ us hl => match us, hl with | [_, _], _ => rfl
theorem sc__law_maybe : FnScope ["_law_deck_here", "_law_it"] ["_law_deck_here", "_law_it"] (defScope s__law_maybe) := ⟨rfl, rfl, rfl, by decide +kernel, rfl, by decide +kernel, by decide +kernel⟩
theorem b__law_maybe (t : Tx K mg) : Binds K t.d__law_maybe ["_law_deck_here", "_law_it"] [] := t.F__law_maybe.bindsN fun _ _ _ _ _ _ us hl => match us, hl with | [_, _], _ => rfl
theorem sc__law_told : FnScope ["_law_call", "_law_told_here", "e"] ["_law_call"] (defScope s__law_told) := ⟨rfl, rfl, rfl, by decide +kernel, rfl, by decide +kernel, by decide +kernel⟩
theorem b__law_told (t : Tx K mg) : Binds K t.d__law_told ["_law_call"] [] := t.F__law_told.bindsN fun _ _ _ _ _ _ us hl => match us, hl with | [_], _ => rfl
theorem sc__law_is_alone_right : FnScope ["_law_thing", "_law_due", "_law_k", "_law_r", "_law_s", "_law_sides", "_law_it", "_law_four", "_law_edge", "_law_told_here"] ["_law_thing"] (defScope s__law_is_alone_right) := ⟨rfl, rfl, rfl, by decide +kernel, rfl, by decide +kernel, by decide +kernel⟩
theorem b__law_is_alone_right (t : Tx K mg) : Binds K t.d__law_is_alone_right ["_law_thing"] [] := t.F__law_is_alone_right.bindsN fun _ _ _ _ _ _ us hl => match us, hl with | [_], _ => rfl
theorem sc__law_are_two_right : FnScope ["_law_near", "_law_far", "_law_edge", "_law_due", "_law_side", "_law_some", "_law_it", "_law_told_here"] ["_law_near", "_law_far", "_law_edge"] (defScope s__law_are_two_right) := ⟨rfl, rfl, rfl, by decide +kernel, rfl, by decide +kernel, by decide +kernel⟩
theorem b__law_are_two_right (t : Tx K mg) : Binds K t.d__law_are_two_right ["_law_near", "_law_far", "_law_edge"] [] := t.F__law_are_two_right.bindsN fun _ _ _ _ _ _ us hl => match us, hl with | [_, _, _], _ => rfl
theorem sc__law_are_neighbours_right : FnScope ["_law_rhomb", "_law_edge", "_law_beside", "_law_is_up", "_law_s", "_law_many", "_law_foot", "_law_far", "_law_due"] ["_law_rhomb"] (defScope s__law_are_neighbours_right) := ⟨rfl, rfl, rfl, by decide +kernel, rfl, by decide +kernel, by decide +kernel⟩
theorem b__law_are_neighbours_right (t : Tx K mg) : Binds K t.d__law_are_neighbours_right ["_law_rhomb"] [] := t.F__law_are_neighbours_right.bindsN fun _ _ _ _ _ _ us hl => match us, hl with | [_], _ => rfl
theorem sc_law : FnScope ["_law_script", "_law_deck_here", "_law_turn", "_law_near", "_law_far", "_law_edge", "_law_text"] ["_law_script"] (defScope s_law) := ⟨rfl, rfl, rfl, by decide +kernel, rfl, by decide +kernel, by decide +kernel⟩
theorem b_law (t : Tx K mg) : Binds K t.d_law ["_law_script"] [] := t.F_law.bindsN fun _ _ _ _ _ _ us hl => match us, hl with | [_], _ => rfl
def T_is_plain_integer : TDS := (dRet (dAnd (dUn (gIs .int) (dVar 0)) (dNot (dUn (gIs .bool) (dVar 0)))))
def tf_is_plain_integer : TF := fun _ ds Q => tfOf 1 T_is_plain_integer (fun _ => False) ds Q
theorem ok_is_plain_integer (t : Tx K mg) : FnG P w K mg base CX0 1 t.a_is_plain_integer t.d_is_plain_integer ["thing"] (spD K 1 tf_is_plain_integer) := by
  have sc := sc_is_plain_integer
  exact fng_data (N := ["thing"]) (T := T_is_plain_integer) t.F_is_plain_integer sc fun cdv A outer s H E F hK hF room =>
    (ds_one (ds_ret (d_and (d_isi (T := .int) hK rfl t.n_isinstance rfl t.n_int (by decide +kernel) (d_var (pv 0))) (d_one (d_not (d_isi (T := .bool) hK rfl t.n_isinstance rfl t.n_bool (by decide +kernel) (d_var (pv 0))))))))
def T_is_direction : TDS := (dRet (dAnd (dCall 1 tf_is_plain_integer (dCons (dVar 0) dNil)) (dChain gLe gLe (dC (.int 0)) (dVar 0) (dC (.int 4)))))
def tf_is_direction : TF := fun _ ds Q => tfOf 1 T_is_direction (fun _ => False) ds Q
theorem ok_is_direction (t : Tx K mg) : FnG P w K mg base CX0 2 t.a_is_direction t.d_is_direction ["thing"] (spD K 1 tf_is_direction) := by
  have sc := sc_is_direction
  exact fng_data (N := ["thing"]) (T := T_is_direction) t.F_is_direction sc fun cdv A outer s H E F hK hF room =>
    (ds_one (ds_ret (d_and (d_call (ok_is_plain_integer t) hK (room.mono (by decide)) rfl t.m_is_plain_integer t.F_is_plain_integer.kp (b_is_plain_integer t) (da_cons (d_var (pv 0)) da_nil)) (d_one (d_chain op_le op_le od_le od_le d_int (d_var (pv 0)) d_int)))))
def T_is_tuple_of : TDS := (dRet (dAnd (dUn (gIs .tuple) (dVar 0)) (dBin gEq (dCB gLen (dCons (dVar 0) dNil)) (dVar 1))))
def tf_is_tuple_of : TF := fun _ ds Q => tfOf 2 T_is_tuple_of (fun _ => False) ds Q
theorem ok_is_tuple_of (t : Tx K mg) : FnG P w K mg base CX0 1 t.a_is_tuple_of t.d_is_tuple_of ["thing", "many"] (spD K 2 tf_is_tuple_of) := by
  have sc := sc_is_tuple_of
  exact fng_data (N := ["thing", "many"]) (T := T_is_tuple_of) t.F_is_tuple_of sc fun cdv A outer s H E F hK hF room =>
    (ds_one (ds_ret (d_and (d_isi (T := .tuple) hK rfl t.n_isinstance rfl t.n_tuple (by decide +kernel) (d_var (pv 0))) (d_one (d_eq hK room.r.units (d_callB (hK ▸ cd_len) call_len_seq rfl t.n_len (by decide +kernel) (da_cons (d_var (pv 0)) da_nil)) (d_var (pv 1)))))))
def T_are_plain_integers : TDS := (dRet (dAnd (dCall 2 tf_is_tuple_of (dCons (dVar 0) (dCons (dVar 1) dNil))) (dCB gAll (dCons (dLcV 0 2 dYes (dCall 1 tf_is_plain_integer (dCons (dVar 2) dNil))) dNil))))
def tf_are_plain_integers : TF := fun _ ds Q => tfOf 3 T_are_plain_integers (fun _ => False) ds Q
theorem ok_are_plain_integers (t : Tx K mg) : FnG P w K mg base CX0 2 t.a_are_plain_integers t.d_are_plain_integers ["thing", "many"] (spD K 2 tf_are_plain_integers) := by
  have sc := sc_are_plain_integers
  exact fng_data (N := ["thing", "many", "part"]) (T := T_are_plain_integers) t.F_are_plain_integers sc fun cdv A outer s H E F hK hF room =>
    (ds_one (ds_ret (d_and (d_call (ok_is_tuple_of t) hK (room.mono (by decide)) rfl t.m_is_tuple_of t.F_is_tuple_of.kp (b_is_tuple_of t) (da_cons (d_var (pv 0)) (da_cons (d_var (pv 1)) da_nil))) (d_one (d_callB (hK ▸ cd_all) (cr_all rfl) rfl t.n_all (by decide +kernel) (da_cons (d_lcV hK rfl sc.nd (pv 0) (blkOk_by (own := [("part", 2)]) (N := ["thing", "many", "part"]) (sc := defScope s_are_plain_integers) (by decide +kernel)) rfl (fun _ _ _ _ _ => pg_name (i := 2) sc.nd rfl (Or.inl rfl)) (fun _ _ _ _ _ => dts_nil) (fun _ _ _ _ _ => (d_call (ok_is_plain_integer t) hK (room.mono (by decide)) rfl t.m_is_plain_integer t.F_is_plain_integer.kp (b_is_plain_integer t) (da_cons (d_var (pv 2)) da_nil)))) da_nil))))))
def T_with_part : TDS := (dRet (dBin gAddA (dBin gAddA (dSl (dVar 0) dNoPart (dPart (dVar 1))) (dTup (dCons (dVar 2) dNil))) (dSl (dVar 0) (dPart (dBin gAddA (dVar 1) (dC (.int 1)))) dNoPart)))
def tf_with_part : TF := fun _ ds Q => tfOf 3 T_with_part (fun _ => False) ds Q
theorem ok_with_part (t : Tx K mg) : FnG P w K mg base CX0 1 t.a_with_part t.d_with_part ["five", "direction", "part"] (spD K 3 tf_with_part) := by
  have sc := sc_with_part
  exact fng_data (N := ["five", "direction", "part"]) (T := T_with_part) t.F_with_part sc fun cdv A outer s H E F hK hF room =>
    (ds_one (ds_ret (d_addA hK (d_addA hK (d_slice hK (d_var (pv 0)) do_none (do_some (d_var (pv 1)))) (d_tup (da_cons (d_var (pv 2)) da_nil))) (d_slice hK (d_var (pv 0)) (do_some (d_addA hK (d_var (pv 1)) d_int)) do_none))))
def T_stepped : TDS := (dRet (dCall 3 tf_with_part (dCons (dVar 0) (dCons (dVar 1) (dCons (dBin gAddA (dBin gIx (dVar 0) (dVar 1)) (dVar 2)) dNil)))))
def tf_stepped : TF := fun _ ds Q => tfOf 3 T_stepped (fun _ => False) ds Q
theorem ok_stepped (t : Tx K mg) : FnG P w K mg base CX0 2 t.a_stepped t.d_stepped ["row", "direction", "by"] (spD K 3 tf_stepped) := by
  have sc := sc_stepped
  exact fng_data (N := ["row", "direction", "by"]) (T := T_stepped) t.F_stepped sc fun cdv A outer s H E F hK hF room =>
    (ds_one (ds_ret (d_call (ok_with_part t) hK (room.mono (by decide)) rfl t.m_with_part t.F_with_part.kp (b_with_part t) (da_cons (d_var (pv 0)) (da_cons (d_var (pv 1)) (da_cons (d_addA hK (d_ix hK (d_var (pv 0)) (d_var (pv 1)) (fun _ _ => rfl)) (d_var (pv 2))) da_nil))))))
def T_is_row : TDS := (dRet (dCall 2 tf_are_plain_integers (dCons (dVar 0) (dCons (dC (.int 5)) dNil))))
def tf_is_row : TF := fun _ ds Q => tfOf 1 T_is_row (fun _ => False) ds Q
theorem ok_is_row (t : Tx K mg) : FnG P w K mg base CX0 3 t.a_is_row t.d_is_row ["thing"] (spD K 1 tf_is_row) := by
  have sc := sc_is_row
  exact fng_data (N := ["thing"]) (T := T_is_row) t.F_is_row sc fun cdv A outer s H E F hK hF room =>
    (ds_one (ds_ret (d_call (ok_are_plain_integers t) hK (room.mono (by decide)) rfl t.m_are_plain_integers t.F_are_plain_integers.kp (b_are_plain_integers t) (da_cons (d_var (pv 0)) (da_cons d_int da_nil)))))
def T_is_corner_row : TDS := (dRet (dAnd (dCall 1 tf_is_row (dCons (dVar 0) dNil)) (dChain gLe gLe (dC (.int 1)) (dCB gSum (dCons (dVar 0) dNil)) (dC (.int 4)))))
def tf_is_corner_row : TF := fun _ ds Q => tfOf 1 T_is_corner_row (fun _ => False) ds Q
theorem ok_is_corner_row (t : Tx K mg) : FnG P w K mg base CX0 4 t.a_is_corner_row t.d_is_corner_row ["thing"] (spD K 1 tf_is_corner_row) := by
  have sc := sc_is_corner_row
  exact fng_data (N := ["thing"]) (T := T_is_corner_row) t.F_is_corner_row sc fun cdv A outer s H E F hK hF room =>
    (ds_one (ds_ret (d_and (d_call (ok_is_row t) hK (room.mono (by decide)) rfl t.m_is_row t.F_is_row.kp (b_is_row t) (da_cons (d_var (pv 0)) da_nil)) (d_one (d_chain op_le op_le od_le od_le d_int (d_callB (hK ▸ cd_sum) (cr_sumA rfl) rfl t.n_sum (by decide +kernel) (da_cons (d_var (pv 0)) da_nil)) d_int)))))
def T_is_tile_row : TDS := (dSeq (dIfS (dtOr (dtNot (dTest (dCall 2 tf_is_tuple_of (dCons (dVar 0) (dCons (dC (.int 3)) dNil))))) (dtOr (dtNot (dTest (dCall 1 tf_is_corner_row (dCons (dBin gIx (dVar 0) (dC (.int 0))) dNil)))) (dTest (dBin gGt (dCB gSum (dCons (dBin gIx (dVar 0) (dC (.int 0))) dNil)) (dC (.int 2))))))
    (dRet (dC (.bl false)))
    dNext)
    (dRet (dAnd (dCall 1 tf_is_direction (dCons (dBin gIx (dVar 0) (dC (.int 1))) dNil)) (dAnd (dCall 1 tf_is_direction (dCons (dBin gIx (dVar 0) (dC (.int 2))) dNil)) (dBin gLt (dBin gIx (dVar 0) (dC (.int 1))) (dBin gIx (dVar 0) (dC (.int 2))))))))
def tf_is_tile_row : TF := fun _ ds Q => tfOf 1 T_is_tile_row (fun _ => False) ds Q
theorem ok_is_tile_row (t : Tx K mg) : FnG P w K mg base CX0 5 t.a_is_tile_row t.d_is_tile_row ["thing"] (spD K 1 tf_is_tile_row) := by
  have sc := sc_is_tile_row
  exact fng_data (N := ["thing"]) (T := T_is_tile_row) t.F_is_tile_row sc fun cdv A outer s H E F hK hF room =>
    (ds_cons (ds_if (PW.pt (dw_or (dt_not (dt_val (d_call (ok_is_tuple_of t) hK (room.mono (by decide)) rfl t.m_is_tuple_of t.F_is_tuple_of.kp (b_is_tuple_of t) (da_cons (d_var (pv 0)) (da_cons d_int da_nil))))) (dw_or (dt_not (dt_val (d_call (ok_is_corner_row t) hK (room.mono (by decide)) rfl t.m_is_corner_row t.F_is_corner_row.kp (b_is_corner_row t) (da_cons (d_ix hK (d_var (pv 0)) d_int (fun _ _ => rfl)) da_nil)))) (dw_or1 (dt_gt (d_callB (hK ▸ cd_sum) (cr_sumA rfl) rfl t.n_sum (by decide +kernel) (da_cons (d_ix hK (d_var (pv 0)) d_int (fun _ _ => rfl)) da_nil)) d_int)))))
    (ds_one (ds_ret d_bl))
    ds_nil)
    (ds_one (ds_ret (d_and (d_call (ok_is_direction t) hK (room.mono (by decide)) rfl t.m_is_direction t.F_is_direction.kp (b_is_direction t) (da_cons (d_ix hK (d_var (pv 0)) d_int (fun _ _ => rfl)) da_nil)) (d_and (d_call (ok_is_direction t) hK (room.mono (by decide)) rfl t.m_is_direction t.F_is_direction.kp (b_is_direction t) (da_cons (d_ix hK (d_var (pv 0)) d_int (fun _ _ => rfl)) da_nil)) (d_one (d_lt (d_ix hK (d_var (pv 0)) d_int (fun _ _ => rfl)) (d_ix hK (d_var (pv 0)) d_int (fun _ _ => rfl)))))))))
def T_need_tile : TDS := (dIfS (dtNot (dTest (dCall 1 tf_is_tile_row (dCons (dVar 0) dNil))))
    (dRaise1 "BadTile" "thing" (dVar 0))
    dNext)
def tf_need_tile : TF := fun ξ ds Q => tfOf 1 T_need_tile ξ ds Q
theorem ok_need_tile (t : Tx K mg) : FnG P w K mg base (CX P w) 6 t.a_need_tile t.d_need_tile ["thing"] (spD K 1 tf_need_tile) := by
  have sc := sc_need_tile
  exact fng_dataX (N := ["thing"]) (T := T_need_tile) t.F_need_tile sc fun cdv A outer s H E F hK wo' room => have tk' : Takes (cxOf (CX P w) P w K mg base ["thing"] "need_tile" (defScope s_need_tile) t.a_need_tile cdv A outer s H E) (fun c od _ H' => E c od H') := takes_of rfl rfl rfl rfl
    (ds_one (ds_if (dt_not (dt_val (d_call (ok_is_tile_row t) hK (room.mono (by decide)) rfl t.m_is_tile_row t.F_is_tile_row.kp (b_is_tile_row t) (da_cons (d_var (pv 0)) da_nil))))
    (ds_one (ds_raise1 rfl tk' wo' hK t.X_BadTile t.G_BadTile (bi_BadTile t) it_BadTile room.r (d_var (pv 0)) rfl))
    ds_nil))
def T_corners_of : TDS := (dSeq (dDrop (dCallX 1 tf_need_tile (dCons (dVar 0) dNil)))
    (dSeq (dAsg (dVar 0) (dgTup 3 (dgCons (dgName 1) (dgCons (dgName 2) (dgCons (dgName 3) dgNil)))))
    (dSeq (dAsg (dCall 3 tf_stepped (dCons (dVar 1) (dCons (dVar 2) (dCons (dC (.int 1)) dNil)))) (dgName 4))
    (dRet (dTup (dCons (dVar 1) (dCons (dVar 4) (dCons (dCall 3 tf_stepped (dCons (dVar 1) (dCons (dVar 3) (dCons (dC (.int 1)) dNil)))) (dCons (dCall 3 tf_stepped (dCons (dVar 4) (dCons (dVar 3) (dCons (dC (.int 1)) dNil)))) dNil)))))))))
def tf_corners_of : TF := fun ξ ds Q => tfOf 5 T_corners_of ξ ds Q
theorem ok_corners_of (t : Tx K mg) : FnG P w K mg base (CX P w) 7 t.a_corners_of t.d_corners_of ["tile"] (spD K 1 tf_corners_of) := by
  have sc := sc_corners_of
  exact fng_dataX (N := ["tile", "foot", "r", "s", "beside"]) (T := T_corners_of) t.F_corners_of sc fun cdv A outer s H E F hK wo' room => have tk' : Takes (cxOf (CX P w) P w K mg base ["tile", "foot", "r", "s", "beside"] "corners_of" (defScope s_corners_of) t.a_corners_of cdv A outer s H E) (fun c od _ H' => E c od H') := takes_of rfl rfl rfl rfl
    (ds_cons (ds_expr (d_callX (ok_need_tile t) tk' wo' hK (room.mono (by decide)) rfl t.m_need_tile t.F_need_tile.kp (b_need_tile t) (da_cons (d_var (pv 0)) da_nil)))
    (ds_cons (ds_asg (d_var (pv 0)) (dg_tup hK rfl (dgs_cons (dg_name (pg_name (i := 1) sc.nd rfl (by first | exact Or.inl rfl | exact Or.inr rfl))) (dgs_cons (dg_name (pg_name (i := 2) sc.nd rfl (by first | exact Or.inl rfl | exact Or.inr rfl))) (dgs_cons (dg_name (pg_name (i := 3) sc.nd rfl (by first | exact Or.inl rfl | exact Or.inr rfl))) dgs_nil)))))
    (ds_cons (ds_set (i := 4) sc.nd rfl (by first | exact Or.inl rfl | exact Or.inr rfl) (d_call (ok_stepped t) hK (room.mono (by decide)) rfl t.m_stepped t.F_stepped.kp (b_stepped t) (da_cons (d_var (pv 1)) (da_cons (d_var (pv 2)) (da_cons d_int da_nil)))))
    (ds_one (ds_ret (d_tup (da_cons (d_var (pv 1)) (da_cons (d_var (pv 4)) (da_cons (d_call (ok_stepped t) hK (room.mono (by decide)) rfl t.m_stepped t.F_stepped.kp (b_stepped t) (da_cons (d_var (pv 1)) (da_cons (d_var (pv 3)) (da_cons d_int da_nil)))) (da_cons (d_call (ok_stepped t) hK (room.mono (by decide)) rfl t.m_stepped t.F_stepped.kp (b_stepped t) (da_cons (d_var (pv 4)) (da_cons (d_var (pv 3)) (da_cons d_int da_nil)))) da_nil))))))))))
def T_edges_of : TDS := (dSeq (dDrop (dCallX 1 tf_need_tile (dCons (dVar 0) dNil)))
    (dSeq (dAsg (dVar 0) (dgTup 3 (dgCons (dgName 1) (dgCons (dgName 2) (dgCons (dgName 3) dgNil)))))
    (dRet (dTup (dCons (dTup (dCons (dVar 1) (dCons (dVar 2) dNil))) (dCons (dTup (dCons (dVar 1) (dCons (dVar 3) dNil))) (dCons (dTup (dCons (dCall 3 tf_stepped (dCons (dVar 1) (dCons (dVar 3) (dCons (dC (.int 1)) dNil)))) (dCons (dVar 2) dNil))) (dCons (dTup (dCons (dCall 3 tf_stepped (dCons (dVar 1) (dCons (dVar 2) (dCons (dC (.int 1)) dNil)))) (dCons (dVar 3) dNil))) dNil))))))))
def tf_edges_of : TF := fun ξ ds Q => tfOf 4 T_edges_of ξ ds Q
theorem ok_edges_of (t : Tx K mg) : FnG P w K mg base (CX P w) 7 t.a_edges_of t.d_edges_of ["tile"] (spD K 1 tf_edges_of) := by
  have sc := sc_edges_of
  exact fng_dataX (N := ["tile", "foot", "r", "s"]) (T := T_edges_of) t.F_edges_of sc fun cdv A outer s H E F hK wo' room => have tk' : Takes (cxOf (CX P w) P w K mg base ["tile", "foot", "r", "s"] "edges_of" (defScope s_edges_of) t.a_edges_of cdv A outer s H E) (fun c od _ H' => E c od H') := takes_of rfl rfl rfl rfl
    (ds_cons (ds_expr (d_callX (ok_need_tile t) tk' wo' hK (room.mono (by decide)) rfl t.m_need_tile t.F_need_tile.kp (b_need_tile t) (da_cons (d_var (pv 0)) da_nil)))
    (ds_cons (ds_asg (d_var (pv 0)) (dg_tup hK rfl (dgs_cons (dg_name (pg_name (i := 1) sc.nd rfl (by first | exact Or.inl rfl | exact Or.inr rfl))) (dgs_cons (dg_name (pg_name (i := 2) sc.nd rfl (by first | exact Or.inl rfl | exact Or.inr rfl))) (dgs_cons (dg_name (pg_name (i := 3) sc.nd rfl (by first | exact Or.inl rfl | exact Or.inr rfl))) dgs_nil)))))
    (ds_one (ds_ret (d_tup (da_cons (d_tup (da_cons (d_var (pv 1)) (da_cons (d_var (pv 2)) da_nil))) (da_cons (d_tup (da_cons (d_var (pv 1)) (da_cons (d_var (pv 3)) da_nil))) (da_cons (d_tup (da_cons (d_call (ok_stepped t) hK (room.mono (by decide)) rfl t.m_stepped t.F_stepped.kp (b_stepped t) (da_cons (d_var (pv 1)) (da_cons (d_var (pv 3)) (da_cons d_int da_nil)))) (da_cons (d_var (pv 2)) da_nil))) (da_cons (d_tup (da_cons (d_call (ok_stepped t) hK (room.mono (by decide)) rfl t.m_stepped t.F_stepped.kp (b_stepped t) (da_cons (d_var (pv 1)) (da_cons (d_var (pv 2)) (da_cons d_int da_nil)))) (da_cons (d_var (pv 3)) da_nil))) da_nil)))))))))
def T_edges_of_K : TDS := (dSeq (dDrop (dCallX 1 tf_need_tile (dCons (dVar 0) dNil)))
    (dSeq (dAsg (dVar 0) (dgTup 3 (dgCons (dgName 1) (dgCons (dgName 2) (dgCons (dgName 3) dgNil)))))
    (dRet (dTupK (dCons (dTup (dCons (dVar 1) (dCons (dVar 2) dNil))) (dCons (dTup (dCons (dVar 1) (dCons (dVar 3) dNil))) (dCons (dTup (dCons (dCall 3 tf_stepped (dCons (dVar 1) (dCons (dVar 3) (dCons (dC (.int 1)) dNil)))) (dCons (dVar 2) dNil))) (dCons (dTup (dCons (dCall 3 tf_stepped (dCons (dVar 1) (dCons (dVar 2) (dCons (dC (.int 1)) dNil)))) (dCons (dVar 3) dNil))) dNil))))))))
def tf_edges_of_K : TF := fun ξ ds Q => tfOf 4 T_edges_of_K ξ ds Q
theorem ok_edges_of_K (t : Tx K mg) : FnG P w K mg base (CX P w) 7 t.a_edges_of t.d_edges_of ["tile"] (spD K 1 tf_edges_of_K) := by
  have sc := sc_edges_of
  exact fng_dataX (N := ["tile", "foot", "r", "s"]) (T := T_edges_of_K) t.F_edges_of sc fun cdv A outer s H E F hK wo' room => have tk' : Takes (cxOf (CX P w) P w K mg base ["tile", "foot", "r", "s"] "edges_of" (defScope s_edges_of) t.a_edges_of cdv A outer s H E) (fun c od _ H' => E c od H') := takes_of rfl rfl rfl rfl
    (ds_cons (ds_expr (d_callX (ok_need_tile t) tk' wo' hK (room.mono (by decide)) rfl t.m_need_tile t.F_need_tile.kp (b_need_tile t) (da_cons (d_var (pv 0)) da_nil)))
    (ds_cons (ds_asg (d_var (pv 0)) (dg_tup hK rfl (dgs_cons (dg_name (pg_name (i := 1) sc.nd rfl (by first | exact Or.inl rfl | exact Or.inr rfl))) (dgs_cons (dg_name (pg_name (i := 2) sc.nd rfl (by first | exact Or.inl rfl | exact Or.inr rfl))) (dgs_cons (dg_name (pg_name (i := 3) sc.nd rfl (by first | exact Or.inl rfl | exact Or.inr rfl))) dgs_nil)))))
    (ds_one (ds_ret (d_tupK (da_cons (d_tup (da_cons (d_var (pv 1)) (da_cons (d_var (pv 2)) da_nil))) (da_cons (d_tup (da_cons (d_var (pv 1)) (da_cons (d_var (pv 3)) da_nil))) (da_cons (d_tup (da_cons (d_call (ok_stepped t) hK (room.mono (by decide)) rfl t.m_stepped t.F_stepped.kp (b_stepped t) (da_cons (d_var (pv 1)) (da_cons (d_var (pv 3)) (da_cons d_int da_nil)))) (da_cons (d_var (pv 2)) da_nil))) (da_cons (d_tup (da_cons (d_call (ok_stepped t) hK (room.mono (by decide)) rfl t.m_stepped t.F_stepped.kp (b_stepped t) (da_cons (d_var (pv 1)) (da_cons (d_var (pv 2)) (da_cons d_int da_nil)))) (da_cons (d_var (pv 3)) da_nil))) da_nil)))))))))
def T_is_thick : TDS := (dSeq (dDrop (dCallX 1 tf_need_tile (dCons (dVar 0) dNil)))
    (dRet (dBin (gIn false) (dBin gSub (dBin gIx (dVar 0) (dC (.int 2))) (dBin gIx (dVar 0) (dC (.int 1)))) (dTup (dCons (dC (.int 1)) (dCons (dC (.int 4)) dNil))))))
def tf_is_thick : TF := fun ξ ds Q => tfOf 1 T_is_thick ξ ds Q
theorem ok_is_thick (t : Tx K mg) : FnG P w K mg base (CX P w) 7 t.a_is_thick t.d_is_thick ["tile"] (spD K 1 tf_is_thick) := by
  have sc := sc_is_thick
  exact fng_dataX (N := ["tile"]) (T := T_is_thick) t.F_is_thick sc fun cdv A outer s H E F hK wo' room => have tk' : Takes (cxOf (CX P w) P w K mg base ["tile"] "is_thick" (defScope s_is_thick) t.a_is_thick cdv A outer s H E) (fun c od _ H' => E c od H') := takes_of rfl rfl rfl rfl
    (ds_cons (ds_expr (d_callX (ok_need_tile t) tk' wo' hK (room.mono (by decide)) rfl t.m_need_tile t.F_need_tile.kp (b_need_tile t) (da_cons (d_var (pv 0)) da_nil)))
    (ds_one (ds_ret (d_in hK (d_sub (d_ix hK (d_var (pv 0)) d_int (fun _ _ => rfl)) (d_ix hK (d_var (pv 0)) d_int (fun _ _ => rfl))) (d_tup (da_cons d_int (da_cons d_int da_nil)))))))
def T_is_low : TDS := (dSeq (dDrop (dCallX 1 tf_need_tile (dCons (dVar 0) dNil)))
    (dRet (dBin gEq (dCB gSum (dCons (dBin gIx (dVar 0) (dC (.int 0))) dNil)) (dC (.int 1)))))
def tf_is_low : TF := fun ξ ds Q => tfOf 1 T_is_low ξ ds Q
theorem ok_is_low (t : Tx K mg) : FnG P w K mg base (CX P w) 7 t.a_is_low t.d_is_low ["tile"] (spD K 1 tf_is_low) := by
  have sc := sc_is_low
  exact fng_dataX (N := ["tile"]) (T := T_is_low) t.F_is_low sc fun cdv A outer s H E F hK wo' room => have tk' : Takes (cxOf (CX P w) P w K mg base ["tile"] "is_low" (defScope s_is_low) t.a_is_low cdv A outer s H E) (fun c od _ H' => E c od H') := takes_of rfl rfl rfl rfl
    (ds_cons (ds_expr (d_callX (ok_need_tile t) tk' wo' hK (room.mono (by decide)) rfl t.m_need_tile t.F_need_tile.kp (b_need_tile t) (da_cons (d_var (pv 0)) da_nil)))
    (ds_one (ds_ret (d_eq hK room.r.units (d_callB (hK ▸ cd_sum) (cr_sumA rfl) rfl t.n_sum (by decide +kernel) (da_cons (d_ix hK (d_var (pv 0)) d_int (fun _ _ => rfl)) da_nil)) d_int))))
def T_marks_of : TDS := (dSeq (dDrop (dCallX 1 tf_need_tile (dCons (dVar 0) dNil)))
    (dSeq (dAsg (dIf (dTest (dBin gEq (dCallX 1 tf_is_thick (dCons (dVar 0) dNil)) (dCallX 1 tf_is_low (dCons (dVar 0) dNil)))) (dC (.str "up")) (dC (.str "down"))) (dgName 1))
    (dSeq (dIfS (dTest (dCallX 1 tf_is_low (dCons (dVar 0) dNil)))
    (dRet (dTup (dCons (dC (.str "outer")) (dCons (dC (.str "outer")) (dCons (dVar 1) (dCons (dVar 1) dNil))))))
    dNext)
    (dRet (dTup (dCons (dVar 1) (dCons (dVar 1) (dCons (dC (.str "outer")) (dCons (dC (.str "outer")) dNil)))))))))
def tf_marks_of : TF := fun ξ ds Q => tfOf 2 T_marks_of ξ ds Q
theorem ok_marks_of (t : Tx K mg) : FnG P w K mg base (CX P w) 8 t.a_marks_of t.d_marks_of ["tile"] (spD K 1 tf_marks_of) := by
  have sc := sc_marks_of
  exact fng_dataX (N := ["tile", "inner"]) (T := T_marks_of) t.F_marks_of sc fun cdv A outer s H E F hK wo' room => have tk' : Takes (cxOf (CX P w) P w K mg base ["tile", "inner"] "marks_of" (defScope s_marks_of) t.a_marks_of cdv A outer s H E) (fun c od _ H' => E c od H') := takes_of rfl rfl rfl rfl
    (ds_cons (ds_expr (d_callX (ok_need_tile t) tk' wo' hK (room.mono (by decide)) rfl t.m_need_tile t.F_need_tile.kp (b_need_tile t) (da_cons (d_var (pv 0)) da_nil)))
    (ds_cons (ds_set (i := 1) sc.nd rfl (by first | exact Or.inl rfl | exact Or.inr rfl) (d_if (dt_eq hK room.r.units (d_callX (ok_is_thick t) tk' wo' hK (room.mono (by decide)) rfl t.m_is_thick t.F_is_thick.kp (b_is_thick t) (da_cons (d_var (pv 0)) da_nil)) (d_callX (ok_is_low t) tk' wo' hK (room.mono (by decide)) rfl t.m_is_low t.F_is_low.kp (b_is_low t) (da_cons (d_var (pv 0)) da_nil))) (d_gstr rfl t.k_UP) (d_gstr rfl t.k_DOWN)))
    (ds_cons (ds_if (dt_val (d_callX (ok_is_low t) tk' wo' hK (room.mono (by decide)) rfl t.m_is_low t.F_is_low.kp (b_is_low t) (da_cons (d_var (pv 0)) da_nil)))
    (ds_one (ds_ret (d_tup (da_cons (d_gstr rfl t.k_OUTER) (da_cons (d_gstr rfl t.k_OUTER) (da_cons (d_var (pv 1)) (da_cons (d_var (pv 1)) da_nil)))))))
    ds_nil)
    (ds_one (ds_ret (d_tup (da_cons (d_var (pv 1)) (da_cons (d_var (pv 1)) (da_cons (d_gstr rfl t.k_OUTER) (da_cons (d_gstr rfl t.k_OUTER) da_nil))))))))))
def T__place_of_edge : TDS := (dSeq (dIfS (dtOr (dtNot (dTest (dCall 2 tf_is_tuple_of (dCons (dVar 1) (dCons (dC (.int 2)) dNil))))) (dtOr (dtNot (dTest (dCall 1 tf_is_corner_row (dCons (dBin gIx (dVar 1) (dC (.int 0))) dNil)))) (dtNot (dTest (dCall 1 tf_is_direction (dCons (dBin gIx (dVar 1) (dC (.int 1))) dNil))))))
    (dRet (dC .non))
    dNext)
    (dSeq (dAsg (dCallX 1 tf_edges_of_K (dCons (dVar 0) dNil)) (dgName 2))
    (dRet (dIf (dTest (dBin (gInD false) (dVar 1) (dVar 2))) (dIdx (dVar 2) (dVar 1)) (dC .non)))))
def tf__place_of_edge : TF := fun ξ ds Q => tfOf 3 T__place_of_edge ξ ds Q
theorem ok__place_of_edge (t : Tx K mg) : FnG P w K mg base (CX P w) 8 t.a__place_of_edge t.d__place_of_edge ["tile", "thing"] (spD K 2 tf__place_of_edge) := by
  have sc := sc__place_of_edge
  exact fng_dataX (N := ["tile", "thing", "edges"]) (T := T__place_of_edge) t.F__place_of_edge sc fun cdv A outer s H E F hK wo' room => have tk' : Takes (cxOf (CX P w) P w K mg base ["tile", "thing", "edges"] "_place_of_edge" (defScope s__place_of_edge) t.a__place_of_edge cdv A outer s H E) (fun c od _ H' => E c od H') := takes_of rfl rfl rfl rfl
    (ds_cons (ds_if (PW.pt (dw_or (dt_not (dt_val (d_call (ok_is_tuple_of t) hK (room.mono (by decide)) rfl t.m_is_tuple_of t.F_is_tuple_of.kp (b_is_tuple_of t) (da_cons (d_var (pv 1)) (da_cons d_int da_nil))))) (dw_or (dt_not (dt_val (d_call (ok_is_corner_row t) hK (room.mono (by decide)) rfl t.m_is_corner_row t.F_is_corner_row.kp (b_is_corner_row t) (da_cons (d_ix hK (d_var (pv 1)) d_int (fun _ _ => rfl)) da_nil)))) (dw_or1 (dt_not (dt_val (d_call (ok_is_direction t) hK (room.mono (by decide)) rfl t.m_is_direction t.F_is_direction.kp (b_is_direction t) (da_cons (d_ix hK (d_var (pv 1)) d_int (fun _ _ => rfl)) da_nil))))))))
    (ds_one (ds_ret d_non))
    ds_nil)
    (ds_cons (ds_set (i := 2) sc.nd rfl (by first | exact Or.inl rfl | exact Or.inr rfl) (d_callX (ok_edges_of_K t) tk' wo' hK (room.mono (by decide)) rfl t.m_edges_of t.F_edges_of.kp (b_edges_of t) (da_cons (d_var (pv 0)) da_nil)))
    (ds_one (ds_ret (d_if (dt_inD hK (u65 room.r) (d_var (pv 1)) (d_var (pv 2))) (d_index hK (u65 room.r) (d_var (pv 2)) (d_var (pv 1))) d_non)))))
def T__is_left_at : TDS := (dSeq (dAsg (dVar 0) (dgTup 3 (dgCons (dgName 2) (dgCons (dgName 3) (dgCons (dgName 4) dgNil)))))
    (dSeq (dAsg (dBin (gIn false) (dVar 1) (dTup (dCons (dC (.int 0)) (dCons (dC (.int 2)) dNil)))) (dgName 5))
    (dSeq (dAsg (dIf (dTruI (dVar 5)) (dBin gMod (dBin gSub (dVar 4) (dVar 3)) (dC (.int 5))) (dBin gMod (dBin gSub (dVar 3) (dVar 4)) (dC (.int 5)))) (dgName 6))
    (dRet (dIf (dTest (dBin gLt (dVar 1) (dC (.int 2)))) (dBin (gIn false) (dVar 6) (dTup (dCons (dC (.int 1)) (dCons (dC (.int 2)) dNil)))) (dBin (gIn false) (dVar 6) (dTup (dCons (dC (.int 3)) (dCons (dC (.int 4)) dNil)))))))))
def tf__is_left_at : TF := fun _ ds Q => tfOf 7 T__is_left_at (fun _ => False) ds Q
theorem ok__is_left_at (t : Tx K mg) : FnG P w K mg base CX0 1 t.a__is_left_at t.d__is_left_at ["tile", "place"] (spD K 2 tf__is_left_at) := by
  have sc := sc__is_left_at
  exact fng_data (N := ["tile", "place", "_", "r", "s", "is_along_r", "gap"]) (T := T__is_left_at) t.F__is_left_at sc fun cdv A outer s H E F hK hF room =>
    (ds_cons (ds_asg (d_var (pv 0)) (dg_tup hK rfl (dgs_cons (dg_name (pg_name (i := 2) sc.nd rfl (by first | exact Or.inl rfl | exact Or.inr rfl))) (dgs_cons (dg_name (pg_name (i := 3) sc.nd rfl (by first | exact Or.inl rfl | exact Or.inr rfl))) (dgs_cons (dg_name (pg_name (i := 4) sc.nd rfl (by first | exact Or.inl rfl | exact Or.inr rfl))) dgs_nil)))))
    (ds_cons (ds_set (i := 5) sc.nd rfl (by first | exact Or.inl rfl | exact Or.inr rfl) (d_in hK (d_var (pv 1)) (d_tup (da_cons d_int (da_cons d_int da_nil)))))
    (ds_cons (ds_set (i := 6) sc.nd rfl (by first | exact Or.inl rfl | exact Or.inr rfl) (d_if (dt_tru (d_var (pv 5))) (d_mod (d_sub (d_var (pv 4)) (d_var (pv 3))) d_int) (d_mod (d_sub (d_var (pv 3)) (d_var (pv 4))) d_int)))
    (ds_one (ds_ret (d_if (dt_lt (d_var (pv 1)) d_int) (d_in hK (d_var (pv 6)) (d_tup (da_cons d_int (da_cons d_int da_nil)))) (d_in hK (d_var (pv 6)) (d_tup (da_cons d_int (da_cons d_int da_nil))))))))))
def T_does_fit : TDS := (dSeq (dDrop (dCallX 1 tf_need_tile (dCons (dVar 0) dNil)))
    (dSeq (dDrop (dCallX 1 tf_need_tile (dCons (dVar 1) dNil)))
    (dSeq (dForE (dCons (dCallX 1 tf_edges_of (dCons (dVar 0) dNil)) dNil) (dgTup 2 (dgCons (dgName 2) (dgCons (dgName 3) dgNil)))
    (dSeq (dAsg (dCallX 2 tf__place_of_edge (dCons (dVar 1) (dCons (dVar 3) dNil))) (dgName 4))
    (dIfS (dTest (dBin gNotN (dVar 4) (dC .non)))
    (dSeq (dAsg (dBin gEq (dBin gIx (dCallX 1 tf_marks_of (dCons (dVar 0) dNil)) (dVar 2)) (dBin gIx (dCallX 1 tf_marks_of (dCons (dVar 1) dNil)) (dVar 4))) (dgName 5))
    (dRet (dAnd (dVar 5) (dBin gNe (dCall 2 tf__is_left_at (dCons (dVar 0) (dCons (dVar 2) dNil))) (dCall 2 tf__is_left_at (dCons (dVar 1) (dCons (dVar 4) dNil)))))))
    dNext)))
    (dRet (dC (.bl false))))))
def tf_does_fit : TF := fun ξ ds Q => tfOf 6 T_does_fit ξ ds Q
theorem ok_does_fit (t : Tx K mg) : FnG P w K mg base (CX P w) 9 t.a_does_fit t.d_does_fit ["one", "other"] (spD K 2 tf_does_fit) := by
  have sc := sc_does_fit
  exact fng_dataX (N := ["one", "other", "place", "edge", "other_place", "do_marks_meet"]) (T := T_does_fit) t.F_does_fit sc fun cdv A outer s H E F hK wo' room => have tk' : Takes (cxOf (CX P w) P w K mg base ["one", "other", "place", "edge", "other_place", "do_marks_meet"] "does_fit" (defScope s_does_fit) t.a_does_fit cdv A outer s H E) (fun c od _ H' => E c od H') := takes_of rfl rfl rfl rfl
    (ds_cons (ds_expr (d_callX (ok_need_tile t) tk' wo' hK (room.mono (by decide)) rfl t.m_need_tile t.F_need_tile.kp (b_need_tile t) (da_cons (d_var (pv 0)) da_nil)))
    (ds_cons (ds_expr (d_callX (ok_need_tile t) tk' wo' hK (room.mono (by decide)) rfl t.m_need_tile t.F_need_tile.kp (b_need_tile t) (da_cons (d_var (pv 1)) da_nil)))
    (ds_cons (ds_forE hK (passes_of rfl) rfl rfl t.n_enumerate (da_cons (d_callX (ok_edges_of t) tk' wo' hK (room.mono (by decide)) rfl t.m_edges_of t.F_edges_of.kp (b_edges_of t) (da_cons (d_var (pv 0)) da_nil)) da_nil) (dg_tup hK rfl (dgs_cons (dg_name (pg_name (i := 2) sc.nd rfl (by first | exact Or.inl rfl | exact Or.inr rfl))) (dgs_cons (dg_name (pg_name (i := 3) sc.nd rfl (by first | exact Or.inl rfl | exact Or.inr rfl))) dgs_nil)))
    (ds_cons (ds_set (i := 4) sc.nd rfl (by first | exact Or.inl rfl | exact Or.inr rfl) (d_callX (ok__place_of_edge t) tk' wo' hK (room.mono (by decide)) rfl t.m__place_of_edge t.F__place_of_edge.kp (b__place_of_edge t) (da_cons (d_var (pv 1)) (da_cons (d_var (pv 3)) da_nil))))
    (ds_one (ds_if (dt_notN (d_var (pv 4)) d_non)
    (ds_cons (ds_set (i := 5) sc.nd rfl (by first | exact Or.inl rfl | exact Or.inr rfl) (d_eq hK room.r.units (d_ix hK (d_callX (ok_marks_of t) tk' wo' hK (room.mono (by decide)) rfl t.m_marks_of t.F_marks_of.kp (b_marks_of t) (da_cons (d_var (pv 0)) da_nil)) (d_var (pv 2)) (fun _ _ => rfl)) (d_ix hK (d_callX (ok_marks_of t) tk' wo' hK (room.mono (by decide)) rfl t.m_marks_of t.F_marks_of.kp (b_marks_of t) (da_cons (d_var (pv 1)) da_nil)) (d_var (pv 4)) (fun _ _ => rfl))))
    (ds_one (ds_ret (d_and (d_var (pv 5)) (d_one (d_ne hK room.r.units (d_call (ok__is_left_at t) hK (room.mono (by decide)) rfl t.m__is_left_at t.F__is_left_at.kp (b__is_left_at t) (da_cons (d_var (pv 0)) (da_cons (d_var (pv 2)) da_nil))) (d_call (ok__is_left_at t) hK (room.mono (by decide)) rfl t.m__is_left_at t.F__is_left_at.kp (b__is_left_at t) (da_cons (d_var (pv 1)) (da_cons (d_var (pv 4)) da_nil)))))))))
    ds_nil))))
    (ds_one (ds_ret d_bl)))))
def T_is_left : TDS := (dSeq (dDrop (dCallX 1 tf_need_tile (dCons (dVar 0) dNil)))
    (dSeq (dAsg (dCallX 2 tf__place_of_edge (dCons (dVar 0) (dCons (dVar 1) dNil))) (dgName 2))
    (dSeq (dIfS (dTest (dBin gIsN (dVar 2) (dC .non)))
    (dRaise1 "BadEdge" "thing" (dVar 1))
    dNext)
    (dRet (dCall 2 tf__is_left_at (dCons (dVar 0) (dCons (dVar 2) dNil)))))))
def tf_is_left : TF := fun ξ ds Q => tfOf 3 T_is_left ξ ds Q
theorem ok_is_left (t : Tx K mg) : FnG P w K mg base (CX P w) 9 t.a_is_left t.d_is_left ["tile", "edge"] (spD K 2 tf_is_left) := by
  have sc := sc_is_left
  exact fng_dataX (N := ["tile", "edge", "place"]) (T := T_is_left) t.F_is_left sc fun cdv A outer s H E F hK wo' room => have tk' : Takes (cxOf (CX P w) P w K mg base ["tile", "edge", "place"] "is_left" (defScope s_is_left) t.a_is_left cdv A outer s H E) (fun c od _ H' => E c od H') := takes_of rfl rfl rfl rfl
    (ds_cons (ds_expr (d_callX (ok_need_tile t) tk' wo' hK (room.mono (by decide)) rfl t.m_need_tile t.F_need_tile.kp (b_need_tile t) (da_cons (d_var (pv 0)) da_nil)))
    (ds_cons (ds_set (i := 2) sc.nd rfl (by first | exact Or.inl rfl | exact Or.inr rfl) (d_callX (ok__place_of_edge t) tk' wo' hK (room.mono (by decide)) rfl t.m__place_of_edge t.F__place_of_edge.kp (b__place_of_edge t) (da_cons (d_var (pv 0)) (da_cons (d_var (pv 1)) da_nil))))
    (ds_cons (ds_if (dt_isn (d_var (pv 2)) d_non)
    (ds_one (ds_raise1 rfl tk' wo' hK t.X_BadEdge t.G_BadEdge (bi_BadEdge t) it_BadEdge room.r (d_var (pv 1)) rfl))
    ds_nil)
    (ds_one (ds_ret (d_call (ok__is_left_at t) hK (room.mono (by decide)) rfl t.m__is_left_at t.F__is_left_at.kp (b__is_left_at t) (da_cons (d_var (pv 0)) (da_cons (d_var (pv 2)) da_nil))))))))
theorem ok__law_deck (t : Tx K mg) : FnG P w K mg base CX0 1 t.a__law_deck t.d__law_deck ["_law_script"] (spDeck K) := by
  have sc : FnScope ["_law_script", "_law_mixed", "_law_cell"] ["_law_script"] (defScope s__law_deck) := sc__law_deck
  refine fng_of (N := ["_law_script", "_law_mixed", "_law_cell"]) t.F__law_deck sc ?_ ?_
  · rintro vs H Q E ⟨a, ns, rfl, _⟩
    rfl
  rintro cdv A outer s H vs Q E room ⟨a, ns, rfl, hS, hlen, k⟩
  refine ⟨_, PSs.nox (pss_cons (ps_set (i := 1) sc.nd rfl (.inl rfl) pe_int)
    (pss_cons (ps_for PassesOwn.never rfl (pi_list (pe_slice sl_list (pv 0) po_none (po_some pe_int))) (pg_name (i := 2) sc.nd rfl (.inl rfl))
      (pss_one (ps_set (i := 1) sc.nd rfl (.inl rfl) (pe_op op_mod (pe_callTy call_int1 (by rfl) t.n_int (by decide +kernel) (pa_cons (pe_op op_add (pe_op op_add (pe_op op_mul (pv 1) pe_int) (pe_op op_mod (pe_callTy call_int1 (by rfl) t.n_int (by decide +kernel) (pa_cons (pv 2) pa_nil)) pe_int)) pe_int) pa_nil)) pe_int))))
    (pss_one (ps_ret (pe_disp (pps_cons pe_str (pe_revL (pe_callTy call_list_of (by rfl) t.n_list (by decide +kernel) (pa_cons (pe_slice sl_list (pv 0) po_none (po_some pe_int)) pa_nil)))
      (pps_cons pe_str (pv 1) (pps_cons pe_str pe_int pps_nil))) (by rfl) (by rfl) (fun z => by cases z) (by decide)))))), ?_⟩
  obtain ⟨ms, hms, hml⟩ := cut_ints ns none (some 63)
  refine ⟨_, rfl, _, rfl, a, _, rfl, hS, fun p hp => ⟨p, rfl, ⟨_, SqL.of upd_same⟩, ?_⟩⟩
  rw [hms]
  have S1 : Same H (upd H p (.lst (ms.map V.int))) := (Same.refl H).lay hp
  refine for_list (K := K) (a := p) (xs := ms.map V.int) (fun i σ' H' => ∃ (m : Int) (v : Option V), σ' = [some (.ref a), some (.int m), v] ∧ H' = upd H p (.lst (ms.map V.int))) ⟨_, _, rfl, rfl⟩ ?_ ?_ ?_
  · rintro i σ' H' _ ⟨m, v, rfl, rfl⟩
    exact SqL.of upd_same
  · rintro i x σ' H' hx ⟨m, v, rfl, rfl⟩
    obtain ⟨u, rfl⟩ : ∃ u, x = V.int u := by
      rw [List.getElem?_map, Option.map_eq_some_iff] at hx
      obtain ⟨u, _, e⟩ := hx
      exact ⟨u, e.symm⟩
    refine ⟨_, rfl, _, _, rfl, rfl, .inr ⟨by decide, by decide⟩, _, rfl, .inl ⟨_, rfl, _, _, rfl, rfl, (by show (0 : Int) < _; decide), _, _, rfl, rfl, _, _, rfl, rfl, .inl ⟨_, rfl, _, _, rfl, rfl, (by show (0 : Int) < _; decide), ?_⟩⟩⟩
    exact ⟨_, _, rfl, rfl⟩
  · rintro σ' H' ⟨m, v, rfl, rfl⟩
    intro p2 hp2
    have S2 := S1.lay (o := .dK []) hp2
    refine ⟨_, rfl, _, rfl, a, _, rfl, S2.seq hS, fun p3 hp3 => ⟨p3, _, rfl, .inl (SqL.of upd_same), fun p4 hp4 => ⟨p4, _, rfl, SqL.of upd_same, fun l hl => ?_⟩⟩⟩
    have S3 := S2.lay (o := .lst (cutV (ns.map V.int) none (some 63))) hp3
    have S4 := S3.lay (o := .lst (cutV (ns.map V.int) none (some 63))) hp4
    have S5 := S4.lay (o := .lst (cutV (ns.map V.int) none (some 63)).reverse) hl
    have D2 : upd (upd H p (.lst (ms.map V.int))) p2 (.dK []) p2 = some (.dK []) := upd_same
    have D5 := keepU (o := .lst (cutV (ns.map V.int) none (some 63)).reverse) (keepU (o := .lst (cutV (ns.map V.int) none (some 63))) (keepU (o := .lst (cutV (ns.map V.int) none (some 63))) D2 hp3) hp4) hl
    refine ⟨_, rfl, D5, [(.inr ("left" : Str), .ref l), (.inr ("mixed" : Str), .int m), (.inr ("draws" : Str), .int 0)], rfl, (by show 3 ≤ 15; decide), ?_⟩
    rw [merge_deck]
    have nl : l ≠ p2 := (ne_of_none (keepU (o := .lst (cutV (ns.map V.int) none (some 63))) (keepU (o := .lst (cutV (ns.map V.int) none (some 63))) D2 hp3) hp4) hl).symm
    refine k _ p2 l m ms.reverse (fun q o e => ?_) (S1.free hp2) (S4.free hl) upd_same ?_ (by rw [List.length_reverse]; omega)
    · have nq : q ≠ p2 := ne_of_none e (S1.free hp2)
      rw [upd_ne nq]
      exact S5 q o e
    · rw [upd_ne nl, upd_same, hms, List.map_reverse]
theorem ok__law_draw (t : Tx K mg) : FnG P w K mg base CX0 1 t.a__law_draw t.d__law_draw ["_law_deck_here", "_law_many"] (spD K 2 tf_draw) := by
  have sc : FnScope ["_law_deck_here", "_law_many", "_law_figure", "_law_cell"] ["_law_deck_here", "_law_many"] (defScope s__law_draw) := sc__law_draw
  refine fng_of (N := ["_law_deck_here", "_law_many", "_law_figure", "_law_cell"]) t.F__law_draw sc ?_ ?_
  · rintro vs H Q E ⟨Z, B, ds, Qd, Ed, b, r, hl, _⟩
    rw [← r.length, hl]; rfl
  rintro cdv A outer s H vs Q E room ⟨Z, B, ds, Qd, Ed, b, r, hl, hT, hq, _⟩
  have hu := hu_of room.r
  obtain ⟨a, l, n, hz, rfl, ⟨n0, n1⟩, hT⟩ := draw_reps r hT
  obtain ⟨xs, m, k, h1, h2, h3⟩ := b.deck.1 a l hz
  refine ⟨_, PSs.nox (pss_cons (ps_dput hu (pv 0) pe_str (pe_op op_add (pe_dget hu (pv 0) pe_str (fun _ _ => rfl)) pe_int) rfl)
    (pss_cons (ps_set (i := 2) sc.nd rfl (.inl rfl) (pe_op op_add (pe_dget hu (pv 0) pe_str (fun _ _ => rfl)) (pe_op op_mul pe_int (pe_dget hu (pv 0) pe_str (fun _ _ => rfl)))))
    (pss_cons (ps_if (pt_cmpR (op_neD room.r.units) (pe_dget hu (pv 0) pe_str (fun _ _ => rfl)) (pe_lst pa_nil) (nomark _))
      (pss_cons (ps_set (i := 3) sc.nd rfl (.inl rfl) (pe_bm0 PySem.F.plainAttrs_list PySem.F.slot_list_pop PySem.F.type_list_pop mt_pop (pe_dget hu (pv 0) pe_str (fun _ _ => rfl))))
      (pss_cons (ps_if (pt_cmpR op_ge (pv 3) (pe_op op_pow pe_int pe_int) (nomark _))
        (pss_cons (ps_expr (pe_bm PySem.F.plainAttrs_list PySem.F.slot_list_append PySem.F.type_list_append mt_append (pe_dget hu (pv 0) pe_str (fun _ _ => rfl))
          (pa_cons (pe_op op_fdiv (pv 3) (pe_callB (call_max2 rfl) (by rfl) t.n_max (by decide +kernel) (pa_cons pe_int (pa_cons (pv 1) pa_nil)))) pa_nil)))
        (pss_one (ps_ret (pe_op op_mod (pe_callTy call_int1 (by rfl) t.n_int (by decide +kernel) (pa_cons (pv 3) pa_nil)) (pv 1)))))
        pss_nil)
      (pss_one (ps_set (i := 2) sc.nd rfl (.inl rfl) (pe_op op_add (pv 2) (pe_op op_mod (pe_callTy call_int1 (by rfl) t.n_int (by decide +kernel) (pa_cons (pv 3) pa_nil)) pe_int))))))
      pss_nil)
    (pss_cons (ps_set (i := 2) sc.nd rfl (.inl rfl) (pe_op op_mod (pe_callTy call_int1 (by rfl) t.n_int (by decide +kernel) (pa_cons (pe_op op_add (pe_op op_mul (pv 2) pe_int) pe_int) pa_nil)) pe_int))
    (pss_cons (ps_set (i := 2) sc.nd rfl (.inl rfl) (pe_op op_mod (pe_callTy call_int1 (by rfl) t.n_int (by decide +kernel) (pa_cons (pe_op op_add (pe_op op_add (pe_op op_mul (pv 2) (pv 2)) (pe_op op_mul pe_int (pe_dget hu (pv 0) pe_str (fun _ _ => rfl)))) pe_int) pa_nil)) pe_int))
    (pss_cons (ps_set (i := 2) sc.nd rfl (.inl rfl) (pe_op op_mod (pe_callTy call_int1 (by rfl) t.n_int (by decide +kernel) (pa_cons (pe_op op_mul (pv 2) pe_int) pa_nil)) pe_int))
    (pss_one (ps_ret (pe_op op_mod (pe_callTy call_int1 (by rfl) t.n_int (by decide +kernel) (pa_cons (pe_op op_fdiv (pv 2) pe_int) pa_nil)) (pv 1)))))))))), ?_⟩
  have hne : a ≠ l := ne_of h1 h2 (by intro z; cases z)
  have K0 : Dk a l H H m k xs := ⟨fun _ _ _ _ e => e, h1, h2, hne, fun _ _ t => t⟩
  have zq : ∀ {H' : Hp} {m k : Int} {ys : List Int} {r : Int}, Dk a l H H' m k ys → ys.length ≤ 63 → 0 ≤ r → r < n → Q (.int r) H' := fun d hy r0 r1 => hq _ _ (.int _) (d.ext hy hz) rfl (hT _ r0 r1)
  -- the number of draws
  refine ⟨_, rfl, a, _, rfl, dg_d h1, _, _, rfl, rfl, _, rfl, a, _, rfl, dp_d h1, ?_⟩
  have K1 := K0.put (j := k + 1)
  -- the figure
  refine ⟨_, rfl, a, _, rfl, dg_m K1.dict, _, rfl, a, _, rfl, dg_d K1.dict, _, _, rfl, rfl, .inl ⟨by decide, by decide⟩, _, _, rfl, rfl, ?_⟩
  have K2 : ∀ p, (upd H a (.dK (deckKvs l m (k + 1)))) p = none → Dk a l H (upd (upd H a (.dK (deckKvs l m (k + 1)))) p (.lst [])) m (k + 1) xs := fun p hp => K1.new hp
  refine ⟨_, rfl, a, _, rfl, dg_l K1.dict, Nat.zero_le _, fun p hp => ?_⟩
  have K3 := K2 p hp
  refine ⟨.list (xs.map PyData.int), .list [], .lst (SqL.of K3.list) (dp_ints xs), .lst (SqL.of upd_same) .nil, shaped_ints xs, rfl, _, rfl, ?_⟩
  rw [eqv_ints_nil]
  generalize hb : (!xs.isEmpty) = bb
  have big : ∀ x : Int, -(2 ^ 64) < x % 2147483563 ∧ x % 2147483563 < 2 ^ 64 := fun x => by omega
  obtain e | ⟨xs', cell, e⟩ := last_of xs
  · subst e
    have hb : false = bb := hb
    subst hb
    refine iteF ?_
    have K9 := K3
    have hy : ([] : List Int).length ≤ 63 := h3
    refine ⟨_, rfl, _, _, rfl, rfl, .inr ⟨by decide, by decide⟩, _, _, rfl, rfl, .inl ⟨_, rfl, _, _, rfl, rfl, (by show (0 : Int) < _; decide), ?_⟩⟩
    refine ⟨_, rfl, _, rfl, _, _, rfl, rfl, .inl (big _), _, rfl, a, _, rfl, dg_d K9.dict, _, _, rfl, rfl, .inl ⟨by decide, by decide⟩, _, _, rfl, rfl, _, _, rfl, rfl, .inl ⟨_, rfl, _, _, rfl, rfl, (by show (0 : Int) < _; decide), ?_⟩⟩
    refine ⟨_, rfl, _, _, rfl, rfl, .inr ⟨by decide, by decide⟩, .inl ⟨_, rfl, _, _, rfl, rfl, (by show (0 : Int) < _; decide), ?_⟩⟩
    refine ⟨_, rfl, _, _, rfl, rfl, ⟨by decide, by decide⟩, .inl ⟨_, rfl, _, rfl, _, _, rfl, rfl, n0, ?_⟩⟩
    exact zq K9 hy (Int.emod_nonneg _ (by omega)) (Int.emod_lt_of_pos _ n0)
  · subst e
    have hy : xs'.length ≤ 62 := by simpa using h3
    have hb : true = bb := by rw [← hb]; simp
    subst hb
    refine iteT ?_
    refine ⟨_, rfl, a, _, rfl, dg_l K3.dict, .inl ⟨rfl, _, SqL.of K3.list⟩, l, _, .int cell, rfl, rfl, K3.list, by simp, ?_⟩
    rw [show ((xs' ++ [cell]).map V.int).dropLast = xs'.map V.int from by simp]
    have K9 := K3.set (ys := xs')
    refine ⟨_, rfl, _, _, rfl, rfl, ⟨by decide, by decide, by decide⟩, _, _, rfl, rfl, _, rfl, ?_⟩
    refine ite2 (fun _ => ?_) (fun _ => ?_)
    · refine ⟨_, rfl, a, _, rfl, dg_l K9.dict, .inl ⟨rfl, _, SqL.of K9.list⟩, _, rfl, _, rfl, _, _, rfl, _, _, rfl, rfl, ⟨by split <;> omega, by split <;> omega⟩, l, _, _, rfl, rfl, K9.list, by rw [List.length_map, sizeLine_eq]; omega, ?_⟩
      refine ⟨_, rfl, .inl ⟨_, rfl, _, rfl, _, _, rfl, rfl, n0, ?_⟩⟩
      rw [show ∀ q : Int, xs'.map V.int ++ [V.int q] = (xs' ++ [q]).map V.int from fun q => by simp]
      exact zq (K9.set (ys := xs' ++ [_])) (by simp; omega) (Int.emod_nonneg _ (by omega)) (Int.emod_lt_of_pos _ n0)
    · refine ⟨_, rfl, _, rfl, .inl ⟨_, rfl, _, _, rfl, rfl, (by show (0 : Int) < _; decide), _, _, rfl, rfl, ?_⟩⟩
      have hy : xs'.length ≤ 63 := by omega
      refine ⟨_, rfl, _, _, rfl, rfl, .inr ⟨by decide, by decide⟩, _, _, rfl, rfl, .inl ⟨_, rfl, _, _, rfl, rfl, (by show (0 : Int) < _; decide), ?_⟩⟩
      refine ⟨_, rfl, _, rfl, _, _, rfl, rfl, .inl (big _), _, rfl, a, _, rfl, dg_d K9.dict, _, _, rfl, rfl, .inl ⟨by decide, by decide⟩, _, _, rfl, rfl, _, _, rfl, rfl, .inl ⟨_, rfl, _, _, rfl, rfl, (by show (0 : Int) < _; decide), ?_⟩⟩
      refine ⟨_, rfl, _, _, rfl, rfl, .inr ⟨by decide, by decide⟩, .inl ⟨_, rfl, _, _, rfl, rfl, (by show (0 : Int) < _; decide), ?_⟩⟩
      refine ⟨_, rfl, _, _, rfl, rfl, ⟨by decide, by decide⟩, .inl ⟨_, rfl, _, rfl, _, _, rfl, rfl, n0, ?_⟩⟩
      exact zq K9 hy (Int.emod_nonneg _ (by omega)) (Int.emod_lt_of_pos _ n0)
def T__law_pick : TDS := (dRet (dBin gIx (dVar 1) (dCall 2 tf_draw (dCons (dVar 0) (dCons (dCB gLen (dCons (dVar 1) dNil)) dNil)))))
def tf__law_pick : TF := fun _ ds Q => tfOf 2 T__law_pick (fun _ => False) ds Q
theorem ok__law_pick (t : Tx K mg) : FnG P w K mg base CX0 2 t.a__law_pick t.d__law_pick ["_law_deck_here", "_law_some"] (spD K 2 tf__law_pick) := by
  have sc := sc__law_pick
  exact fng_data (N := ["_law_deck_here", "_law_some"]) (T := T__law_pick) t.F__law_pick sc fun cdv A outer s H E F hK hF room =>
    (ds_one (ds_ret (d_ix hK (d_var (pv 1)) (d_call (ok__law_draw t) hK (room.mono (by decide)) rfl t.m__law_draw t.F__law_draw.kp (b__law_draw t) (da_cons (d_var (pv 0)) (da_cons (d_callB (hK ▸ cd_len) call_len_seq rfl t.n_len (by decide +kernel) (da_cons (d_var (pv 1)) da_nil)) da_nil))) (fun _ _ => rfl))))
def T__law_integer : TDS := (dSeq (dPar3 2 3 4 (dCons (dCall 2 tf_draw (dCons (dVar 0) (dCons (dC (.int 9)) dNil))) (dCons (dBin gSub (dC (.int 1)) (dBin gMulA (dC (.int 2)) (dCall 2 tf_draw (dCons (dVar 0) (dCons (dC (.int 2)) dNil))))) (dCons (dC (.int 0)) dNil))))
    (dSeq (dIfS (dTest (dBin gLt (dVar 2) (dC (.int 6))))
    (dRet (dBin gMulA (dVar 3) (dCall 2 tf_draw (dCons (dVar 0) (dCons (dBin gIx (dTup (dCons (dC (.int 1)) (dCons (dC (.int 3)) (dCons (dC (.int 5)) (dCons (dC (.int 13)) (dCons (dC (.int 100)) (dCons (dC (.int 1000)) dNil))))))) (dVar 2)) dNil)))))
    dNext)
    (dSeq (dIfS (dTest (dBin gEq (dVar 2) (dC (.int 6))))
    (dRet (dBin gMulA (dVar 3) (dBin gSub (dUn gNinesB (dBin gMulA (dC (.int 6)) (dVar 1))) (dCall 2 tf_draw (dCons (dVar 0) (dCons (dC (.int 50)) dNil))))))
    dNext)
    (dSeq (dForR (dCons (dBin gAddA (dC (.int 1)) (dCall 2 tf_draw (dCons (dVar 0) (dCons (dVar 1) dNil)))) dNil) (dgName 5)
    (dAsg (dBin gAddA (dBin gMulA (dVar 4) (dBin gPow (dC (.int 10)) (dC (.int 6)))) (dCall 2 tf_draw (dCons (dVar 0) (dCons (dBin gPow (dC (.int 10)) (dC (.int 6))) dNil)))) (dgName 4)))
    (dRet (dBin gMulA (dVar 3) (dVar 4)))))))
def tf__law_integer : TF := fun _ ds Q => tfOf 6 T__law_integer (fun _ => False) ds Q
theorem ok__law_integer (t : Tx K mg) : FnG P w K mg base CX0 2 t.a__law_integer t.d__law_integer ["_law_deck_here", "_law_pieces"] (spD K 2 tf__law_integer) := by
  have sc := sc__law_integer
  exact fng_data (N := ["_law_deck_here", "_law_pieces", "_law_way", "_law_facing", "_law_found", "_law_piece"]) (T := T__law_integer) t.F__law_integer sc fun cdv A outer s H E F hK hF room =>
    (ds_cons (ds_par3 (i := 2) (j := 3) (l := 4) rfl sc.nd rfl rfl rfl (by decide) (by decide) (by decide) rfl rfl rfl (da_cons (d_call (ok__law_draw t) hK (room.mono (by decide)) rfl t.m__law_draw t.F__law_draw.kp (b__law_draw t) (da_cons (d_var (pv 0)) (da_cons d_int da_nil))) (da_cons (d_sub d_int (d_mulA d_int (d_call (ok__law_draw t) hK (room.mono (by decide)) rfl t.m__law_draw t.F__law_draw.kp (b__law_draw t) (da_cons (d_var (pv 0)) (da_cons d_int da_nil))))) (da_cons d_int da_nil))))
    (ds_cons (ds_if (dt_lt (d_var (pv 2)) d_int)
    (ds_one (ds_ret (d_mulA (d_var (pv 3)) (d_call (ok__law_draw t) hK (room.mono (by decide)) rfl t.m__law_draw t.F__law_draw.kp (b__law_draw t) (da_cons (d_var (pv 0)) (da_cons (d_ix hK (d_tup (da_cons d_int (da_cons d_int (da_cons d_int (da_cons d_int (da_cons d_int (da_cons d_int da_nil))))))) (d_var (pv 2)) (fun _ _ => rfl)) da_nil))))))
    ds_nil)
    (ds_cons (ds_if (dt_eq hK room.r.units (d_var (pv 2)) d_int)
    (ds_one (ds_ret (d_mulA (d_var (pv 3)) (d_sub (d_ninesB (hK ▸ t.mx) rfl t.n_int (d_mulA d_int (d_var (pv 1)))) (d_call (ok__law_draw t) hK (room.mono (by decide)) rfl t.m__law_draw t.F__law_draw.kp (b__law_draw t) (da_cons (d_var (pv 0)) (da_cons d_int da_nil)))))))
    ds_nil)
    (ds_cons (ds_forR1 PassesOwn.never rfl rfl t.n_range (da_cons (d_addA hK d_int (d_call (ok__law_draw t) hK (room.mono (by decide)) rfl t.m__law_draw t.F__law_draw.kp (b__law_draw t) (da_cons (d_var (pv 0)) (da_cons (d_var (pv 1)) da_nil)))) da_nil) (dg_name (pg_name (i := 5) sc.nd rfl (by first | exact Or.inl rfl | exact Or.inr rfl)))
    (ds_one (ds_set (i := 4) sc.nd rfl (by first | exact Or.inl rfl | exact Or.inr rfl) (d_addA hK (d_mulA (d_var (pv 4)) (d_pow d_int d_int)) (d_call (ok__law_draw t) hK (room.mono (by decide)) rfl t.m__law_draw t.F__law_draw.kp (b__law_draw t) (da_cons (d_var (pv 0)) (da_cons (d_pow d_int d_int) da_nil)))))))
    (ds_one (ds_ret (d_mulA (d_var (pv 3)) (d_var (pv 4)))))))))
def T__law_same : TDS := (dRet (dBin gEq (dCB gReprR (dCons (dVar 0) dNil)) (dCB gReprR (dCons (dVar 1) dNil))))
def tf__law_same : TF := fun _ ds Q => tfOf 2 T__law_same (fun _ => False) ds Q
theorem ok__law_same (t : Tx K mg) : FnG P w K mg base CX0 1 t.a__law_same t.d__law_same ["_law_told_here", "_law_due"] (spD K 2 tf__law_same) := by
  have sc := sc__law_same
  exact fng_data (N := ["_law_told_here", "_law_due"]) (T := T__law_same) t.F__law_same sc fun cdv A outer s H E F hK hF room =>
    (ds_one (ds_ret (d_eq hK room.r.units (d_reprR hK t.sm room.g (units80 room.r) rfl t.n_repr (da_cons (d_var (pv 0)) da_nil)) (d_reprR hK t.sm room.g (units80 room.r) rfl t.n_repr (da_cons (d_var (pv 1)) da_nil)))))
def T__law_step : TDS := (dRet (dBin gAddA (dBin gAddA (dSl (dVar 0) dNoPart (dPart (dVar 1))) (dTup (dCons (dBin gAddA (dBin gIx (dVar 0) (dVar 1)) (dVar 2)) dNil))) (dSl (dVar 0) (dPart (dBin gAddA (dVar 1) (dC (.int 1)))) dNoPart)))
def tf__law_step : TF := fun _ ds Q => tfOf 3 T__law_step (fun _ => False) ds Q
theorem ok__law_step (t : Tx K mg) : FnG P w K mg base CX0 1 t.a__law_step t.d__law_step ["_law_k", "_law_r", "_law_many"] (spD K 3 tf__law_step) := by
  have sc := sc__law_step
  exact fng_data (N := ["_law_k", "_law_r", "_law_many"]) (T := T__law_step) t.F__law_step sc fun cdv A outer s H E F hK hF room =>
    (ds_one (ds_ret (d_addA hK (d_addA hK (d_slice hK (d_var (pv 0)) do_none (do_some (d_var (pv 1)))) (d_tup (da_cons (d_addA hK (d_ix hK (d_var (pv 0)) (d_var (pv 1)) (fun _ _ => rfl)) (d_var (pv 2))) da_nil))) (d_slice hK (d_var (pv 0)) (do_some (d_addA hK (d_var (pv 1)) d_int)) do_none))))
def T__law_drawn : TDS := (dSeq (dOwnPar3 (lLcR (dCons (dC (.int 5)) dNil) 4 dYes (dCall 2 tf__law_integer (dCons (dVar 0) (dCons (dC (.int 9)) dNil)))) (dCall 2 tf_draw (dCons (dVar 0) (dCons (dC (.int 5)) dNil))) (dCall 2 tf_draw (dCons (dVar 0) (dCons (dC (.int 5)) dNil))) 1 2 3)
    (dSeq (dSetAt 1 (dVar 2) (dBin gSub (dBin gAddA (dBin gAddA (dOwnIx 1 (dVar 2)) (dC (.int 1))) (dCall 2 tf_draw (dCons (dVar 0) (dCons (dC (.int 2)) dNil)))) (dLend 1 (dCB gSum (dCons (dVar 1) dNil)))))
    (dFreeze 1 (dSeq (dAsg (dBin gMod (dCB gInt (dCons (dBin gAddA (dBin gAddA (dVar 3) (dC (.int 1))) (dCall 2 tf_draw (dCons (dVar 0) (dCons (dC (.int 4)) dNil)))) dNil)) (dC (.int 5))) (dgName 5))
    (dRet (dTup (dCons (dCB gTuple (dCons (dVar 1) dNil)) (dCons (dCB gMin2 (dCons (dVar 3) (dCons (dVar 5) dNil))) (dCons (dCB gMax2 (dCons (dVar 3) (dCons (dVar 5) dNil))) dNil)))))))))
def tf__law_drawn : TF := fun _ ds Q => tfOf 6 T__law_drawn (fun _ => False) ds Q
theorem ok__law_drawn (t : Tx K mg) : FnG P w K mg base CX0 3 t.a__law_drawn t.d__law_drawn ["_law_deck_here"] (spD K 1 tf__law_drawn) := by
  have sc := sc__law_drawn
  exact fng_data (N := ["_law_deck_here", "_law_found", "_law_at", "_law_r", "_law_j", "_law_s"]) (T := T__law_drawn) t.F__law_drawn sc fun cdv A outer s H E F hK hF room =>
    (ds_cons (ds_ownPar3 (i := 1) (j := 2) (l := 3) rfl sc.nd rfl rfl rfl (by decide) (by decide) (by decide) rfl rfl rfl (l_lcR hK rfl sc.nd rfl t.n_range (da_cons d_int da_nil) (blkOk_by (own := [("_law_j", 4)]) (N := ["_law_deck_here", "_law_found", "_law_at", "_law_r", "_law_j", "_law_s"]) (sc := defScope s__law_drawn) (by decide +kernel)) rfl (fun _ _ _ _ _ => pg_name (i := 4) sc.nd rfl (Or.inl rfl)) (fun _ _ _ _ _ => dts_nil) (fun _ _ _ _ _ => (d_call (ok__law_integer t) hK (room.mono (by decide)) rfl t.m__law_integer t.F__law_integer.kp (b__law_integer t) (da_cons (d_var (pv 0)) (da_cons d_int da_nil))))) (d_call (ok__law_draw t) hK (room.mono (by decide)) rfl t.m__law_draw t.F__law_draw.kp (b__law_draw t) (da_cons (d_var (pv 0)) (da_cons d_int da_nil))) (d_call (ok__law_draw t) hK (room.mono (by decide)) rfl t.m__law_draw t.F__law_draw.kp (b__law_draw t) (da_cons (d_var (pv 0)) (da_cons d_int da_nil))))
    (ds_cons (ds_setAt (pv 1) (d_var (pv 2)) (d_sub (d_addA hK (d_addA hK (d_ownIx hK (pv 1) (d_var (pv 2)) (fun _ _ => rfl)) d_int) (d_call (ok__law_draw t) hK (room.mono (by decide)) rfl t.m__law_draw t.F__law_draw.kp (b__law_draw t) (da_cons (d_var (pv 0)) (da_cons d_int da_nil)))) (d_lend (i := 1) (d_callB (hK ▸ cd_sum) (cr_sumA rfl) rfl t.n_sum (by decide +kernel) (da_cons (d_var (pv 1)) da_nil)))))
    (dss_freeze (i := 1) (ds_cons (ds_set (i := 5) sc.nd rfl (by first | exact Or.inl rfl | exact Or.inr rfl) (d_mod (d_callTy cd_int call_int1 rfl t.n_int (by decide +kernel) (da_cons (d_addA hK (d_addA hK (d_var (pv 3)) d_int) (d_call (ok__law_draw t) hK (room.mono (by decide)) rfl t.m__law_draw t.F__law_draw.kp (b__law_draw t) (da_cons (d_var (pv 0)) (da_cons d_int da_nil)))) da_nil)) d_int))
    (ds_one (ds_ret (d_tup (da_cons (d_callTy (hK ▸ cd_tuple) call_tuple_of rfl t.n_tuple (by decide +kernel) (da_cons (d_var (pv 1)) da_nil)) (da_cons (d_callB cd_min2 (call_min2 rfl) rfl t.n_min (by decide +kernel) (da_cons (d_var (pv 3)) (da_cons (d_var (pv 5)) da_nil))) (da_cons (d_callB cd_max2 (call_max2 rfl) rfl t.n_max (by decide +kernel) (da_cons (d_var (pv 3)) (da_cons (d_var (pv 5)) da_nil))) da_nil))))))))))
def T__law_borders : TDS := (dSeq (dAsg (dVar 0) (dgTup 3 (dgCons (dgName 1) (dgCons (dgName 2) (dgCons (dgName 3) dgNil)))))
    (dRet (dLst (dCons (dTup (dCons (dTup (dCons (dVar 1) (dCons (dVar 2) dNil))) (dCons (dVar 3) (dCons (dC (.int 1)) dNil)))) (dCons (dTup (dCons (dTup (dCons (dVar 1) (dCons (dVar 3) dNil))) (dCons (dVar 2) (dCons (dC (.int 1)) dNil)))) (dCons (dTup (dCons (dTup (dCons (dCall 3 tf__law_step (dCons (dVar 1) (dCons (dVar 3) (dCons (dC (.int 1)) dNil)))) (dCons (dVar 2) dNil))) (dCons (dVar 3) (dCons (dC (.int 0)) dNil)))) (dCons (dTup (dCons (dTup (dCons (dCall 3 tf__law_step (dCons (dVar 1) (dCons (dVar 2) (dCons (dC (.int 1)) dNil)))) (dCons (dVar 3) dNil))) (dCons (dVar 2) (dCons (dC (.int 0)) dNil)))) dNil)))))))
def tf__law_borders : TF := fun _ ds Q => tfOf 4 T__law_borders (fun _ => False) ds Q
theorem ok__law_borders (t : Tx K mg) : FnG P w K mg base CX0 2 t.a__law_borders t.d__law_borders ["_law_rhomb"] (spD K 1 tf__law_borders) := by
  have sc := sc__law_borders
  exact fng_data (N := ["_law_rhomb", "_law_k", "_law_r", "_law_s"]) (T := T__law_borders) t.F__law_borders sc fun cdv A outer s H E F hK hF room =>
    (ds_cons (ds_asg (d_var (pv 0)) (dg_tup hK rfl (dgs_cons (dg_name (pg_name (i := 1) sc.nd rfl (by first | exact Or.inl rfl | exact Or.inr rfl))) (dgs_cons (dg_name (pg_name (i := 2) sc.nd rfl (by first | exact Or.inl rfl | exact Or.inr rfl))) (dgs_cons (dg_name (pg_name (i := 3) sc.nd rfl (by first | exact Or.inl rfl | exact Or.inr rfl))) dgs_nil)))))
    (ds_one (ds_ret (d_lst (da_cons (d_tup (da_cons (d_tup (da_cons (d_var (pv 1)) (da_cons (d_var (pv 2)) da_nil))) (da_cons (d_var (pv 3)) (da_cons d_int da_nil)))) (da_cons (d_tup (da_cons (d_tup (da_cons (d_var (pv 1)) (da_cons (d_var (pv 3)) da_nil))) (da_cons (d_var (pv 2)) (da_cons d_int da_nil)))) (da_cons (d_tup (da_cons (d_tup (da_cons (d_call (ok__law_step t) hK (room.mono (by decide)) rfl t.m__law_step t.F__law_step.kp (b__law_step t) (da_cons (d_var (pv 1)) (da_cons (d_var (pv 3)) (da_cons d_int da_nil)))) (da_cons (d_var (pv 2)) da_nil))) (da_cons (d_var (pv 3)) (da_cons d_int da_nil)))) (da_cons (d_tup (da_cons (d_tup (da_cons (d_call (ok__law_step t) hK (room.mono (by decide)) rfl t.m__law_step t.F__law_step.kp (b__law_step t) (da_cons (d_var (pv 1)) (da_cons (d_var (pv 2)) (da_cons d_int da_nil)))) (da_cons (d_var (pv 3)) da_nil))) (da_cons (d_var (pv 2)) (da_cons d_int da_nil)))) da_nil))))))))
def T__law_is_lefthand : TDS := (dSeq (dAsg (dIf (dTest (dBin gEq (dVar 2) (dC (.int 1)))) (dBin gMulA (dC (.int 2)) (dVar 1)) (dBin gAddA (dBin gMulA (dC (.int 2)) (dVar 1)) (dC (.int 5)))) (dgName 3))
    (dRet (dBin gLt (dBin gMod (dCB gInt (dCons (dBin gSub (dVar 3) (dBin gMulA (dC (.int 2)) (dVar 0))) dNil)) (dC (.int 10))) (dC (.int 5)))))
def tf__law_is_lefthand : TF := fun _ ds Q => tfOf 4 T__law_is_lefthand (fun _ => False) ds Q
theorem ok__law_is_lefthand (t : Tx K mg) : FnG P w K mg base CX0 1 t.a__law_is_lefthand t.d__law_is_lefthand ["_law_j", "_law_beside", "_law_is_up"] (spD K 3 tf__law_is_lefthand) := by
  have sc := sc__law_is_lefthand
  exact fng_data (N := ["_law_j", "_law_beside", "_law_is_up", "_law_reach"]) (T := T__law_is_lefthand) t.F__law_is_lefthand sc fun cdv A outer s H E F hK hF room =>
    (ds_cons (ds_set (i := 3) sc.nd rfl (by first | exact Or.inl rfl | exact Or.inr rfl) (d_if (dt_eq hK room.r.units (d_var (pv 2)) d_int) (d_mulA d_int (d_var (pv 1))) (d_addA hK (d_mulA d_int (d_var (pv 1))) d_int)))
    (ds_one (ds_ret (d_lt (d_mod (d_callTy cd_int call_int1 rfl t.n_int (by decide +kernel) (da_cons (d_sub (d_var (pv 3)) (d_mulA d_int (d_var (pv 0)))) da_nil)) d_int) d_int))))
def T__law_mark : TDS := (dSeq (dIfS (dTest (dBin gNe (dCB gSum (dCons (dBin gIx (dVar 1) (dC (.int 0))) dNil)) (dC (.int 2))))
    (dRet (dC (.str "outer")))
    dNext)
    (dRet (dIf (dTest (dBin gEq (dBin (gIn false) (dBin gSub (dBin gIx (dVar 0) (dC (.int 2))) (dBin gIx (dVar 0) (dC (.int 1)))) (dTup (dCons (dC (.int 1)) (dCons (dC (.int 4)) dNil)))) (dBin gEq (dCB gSum (dCons (dBin gIx (dVar 0) (dC (.int 0))) dNil)) (dC (.int 1))))) (dC (.str "up")) (dC (.str "down")))))
def tf__law_mark : TF := fun _ ds Q => tfOf 2 T__law_mark (fun _ => False) ds Q
theorem ok__law_mark (t : Tx K mg) : FnG P w K mg base CX0 1 t.a__law_mark t.d__law_mark ["_law_rhomb", "_law_edge"] (spD K 2 tf__law_mark) := by
  have sc := sc__law_mark
  exact fng_data (N := ["_law_rhomb", "_law_edge"]) (T := T__law_mark) t.F__law_mark sc fun cdv A outer s H E F hK hF room =>
    (ds_cons (ds_if (dt_ne hK room.r.units (d_callB (hK ▸ cd_sum) (cr_sumA rfl) rfl t.n_sum (by decide +kernel) (da_cons (d_ix hK (d_var (pv 1)) d_int (fun _ _ => rfl)) da_nil)) d_int)
    (ds_one (ds_ret d_str))
    ds_nil)
    (ds_one (ds_ret (d_if (dt_eq hK room.r.units (d_in hK (d_sub (d_ix hK (d_var (pv 0)) d_int (fun _ _ => rfl)) (d_ix hK (d_var (pv 0)) d_int (fun _ _ => rfl))) (d_tup (da_cons d_int (da_cons d_int da_nil)))) (d_eq hK room.r.units (d_callB (hK ▸ cd_sum) (cr_sumA rfl) rfl t.n_sum (by decide +kernel) (da_cons (d_ix hK (d_var (pv 0)) d_int (fun _ _ => rfl)) da_nil)) d_int)) d_str d_str))))
def T__law_do_fit : TDS := (dSeq (dAsg (dCall 1 tf__law_borders (dCons (dVar 1) dNil)) (dgName 2))
    (dSeq (dFor (dCall 1 tf__law_borders (dCons (dVar 0) dNil)) (dgTup 3 (dgCons (dgName 3) (dgCons (dgName 4) (dgCons (dgName 5) dgNil))))
    (dForV 2 (dgName 6)
    (dIfS (dTest (dBin gEq (dBin gIx (dVar 6) (dC (.int 0))) (dVar 3)))
    (dSeq (dPar 7 8 (dCons (dCall 3 tf__law_is_lefthand (dCons (dBin gIx (dVar 3) (dC (.int 1))) (dCons (dVar 4) (dCons (dVar 5) dNil)))) (dCons (dCall 3 tf__law_is_lefthand (dCons (dBin gIx (dVar 3) (dC (.int 1))) (dCons (dBin gIx (dVar 6) (dC (.int 1))) (dCons (dBin gIx (dVar 6) (dC (.int 2))) dNil)))) dNil)))
    (dRet (dAnd (dBin gNe (dVar 7) (dVar 8)) (dBin gEq (dCall 2 tf__law_mark (dCons (dVar 0) (dCons (dVar 3) dNil))) (dCall 2 tf__law_mark (dCons (dVar 1) (dCons (dVar 3) dNil)))))))
    dNext)))
    (dRet (dC (.bl false)))))
def tf__law_do_fit : TF := fun _ ds Q => tfOf 9 T__law_do_fit (fun _ => False) ds Q
theorem ok__law_do_fit (t : Tx K mg) : FnG P w K mg base CX0 3 t.a__law_do_fit t.d__law_do_fit ["_law_near", "_law_far"] (spD K 2 tf__law_do_fit) := by
  have sc := sc__law_do_fit
  exact fng_data (N := ["_law_near", "_law_far", "_law_others", "_law_edge", "_law_beside", "_law_is_up", "_law_it", "_law_one", "_law_other"]) (T := T__law_do_fit) t.F__law_do_fit sc fun cdv A outer s H E F hK hF room =>
    (ds_cons (ds_set (i := 2) sc.nd rfl (by first | exact Or.inl rfl | exact Or.inr rfl) (d_call (ok__law_borders t) hK (room.mono (by decide)) rfl t.m__law_borders t.F__law_borders.kp (b__law_borders t) (da_cons (d_var (pv 1)) da_nil)))
    (ds_cons (ds_for hK PassesOwn.never rfl (d_call (ok__law_borders t) hK (room.mono (by decide)) rfl t.m__law_borders t.F__law_borders.kp (b__law_borders t) (da_cons (d_var (pv 0)) da_nil)) (dg_tup hK rfl (dgs_cons (dg_name (pg_name (i := 3) sc.nd rfl (by first | exact Or.inl rfl | exact Or.inr rfl))) (dgs_cons (dg_name (pg_name (i := 4) sc.nd rfl (by first | exact Or.inl rfl | exact Or.inr rfl))) (dgs_cons (dg_name (pg_name (i := 5) sc.nd rfl (by first | exact Or.inl rfl | exact Or.inr rfl))) dgs_nil))))
    (ds_one (ds_forV hK PassesOwn.never rfl (pv 2) (dg_name (pg_name (i := 6) sc.nd rfl (by first | exact Or.inl rfl | exact Or.inr rfl)))
    (ds_one (ds_if (dt_eq hK room.r.units (d_ix hK (d_var (pv 6)) d_int (fun _ _ => rfl)) (d_var (pv 3)))
    (ds_cons (ds_par (i := 7) (j := 8) rfl sc.nd rfl rfl (by decide) rfl rfl (da_cons (d_call (ok__law_is_lefthand t) hK (room.mono (by decide)) rfl t.m__law_is_lefthand t.F__law_is_lefthand.kp (b__law_is_lefthand t) (da_cons (d_ix hK (d_var (pv 3)) d_int (fun _ _ => rfl)) (da_cons (d_var (pv 4)) (da_cons (d_var (pv 5)) da_nil)))) (da_cons (d_call (ok__law_is_lefthand t) hK (room.mono (by decide)) rfl t.m__law_is_lefthand t.F__law_is_lefthand.kp (b__law_is_lefthand t) (da_cons (d_ix hK (d_var (pv 3)) d_int (fun _ _ => rfl)) (da_cons (d_ix hK (d_var (pv 6)) d_int (fun _ _ => rfl)) (da_cons (d_ix hK (d_var (pv 6)) d_int (fun _ _ => rfl)) da_nil)))) da_nil)))
    (ds_one (ds_ret (d_and (d_ne hK room.r.units (d_var (pv 7)) (d_var (pv 8))) (d_one (d_eq hK room.r.units (d_call (ok__law_mark t) hK (room.mono (by decide)) rfl t.m__law_mark t.F__law_mark.kp (b__law_mark t) (da_cons (d_var (pv 0)) (da_cons (d_var (pv 3)) da_nil))) (d_call (ok__law_mark t) hK (room.mono (by decide)) rfl t.m__law_mark t.F__law_mark.kp (b__law_mark t) (da_cons (d_var (pv 1)) (da_cons (d_var (pv 3)) da_nil)))))))))
    ds_nil)))))
    (ds_one (ds_ret d_bl))))
def T__law_is_tile : TDS := (dSeq (dIfS (dtOr (dtNot (dTest (dUn (gIs .tuple) (dVar 0)))) (dtOr (dTest (dBin gNe (dCB gLen (dCons (dVar 0) dNil)) (dC (.int 3)))) (dtOr (dtNot (dTest (dUn (gIs .tuple) (dBin gIx (dVar 0) (dC (.int 0)))))) (dTest (dBin gNe (dCB gLen (dCons (dBin gIx (dVar 0) (dC (.int 0))) dNil)) (dC (.int 5)))))))
    (dRet (dC (.bl false)))
    dNext)
    (dSeq (dIfS (dTest (dBin gNe (dLcT (dBin gAddA (dBin gIx (dVar 0) (dC (.int 0))) (dSl (dVar 0) (dPart (dC (.int 1))) dNoPart)) 1 (dtOr (dtNot (dTest (dUn (gIs .int) (dVar 1)))) (dTest (dUn (gIs .bool) (dVar 1)))) (dC (.int 1))) (dLst dNil)))
    (dRet (dC (.bl false)))
    dNext)
    (dRet (dAnd (dBin (gIn false) (dCB gSum (dCons (dBin gIx (dVar 0) (dC (.int 0))) dNil)) (dTup (dCons (dC (.int 1)) (dCons (dC (.int 2)) dNil)))) (dAnd (dBin gGe (dBin gIx (dVar 0) (dC (.int 1))) (dC (.int 0))) (dAnd (dBin gLt (dBin gIx (dVar 0) (dC (.int 1))) (dBin gIx (dVar 0) (dC (.int 2)))) (dBin gLt (dBin gIx (dVar 0) (dC (.int 2))) (dC (.int 5)))))))))
def tf__law_is_tile : TF := fun _ ds Q => tfOf 2 T__law_is_tile (fun _ => False) ds Q
theorem ok__law_is_tile (t : Tx K mg) : FnG P w K mg base CX0 1 t.a__law_is_tile t.d__law_is_tile ["_law_thing"] (spD K 1 tf__law_is_tile) := by
  have sc := sc__law_is_tile
  exact fng_data (N := ["_law_thing", "_law_it"]) (T := T__law_is_tile) t.F__law_is_tile sc fun cdv A outer s H E F hK hF room =>
    (ds_cons (ds_if (PW.pt (dw_or (dt_not (dt_val (d_isi (T := .tuple) hK rfl t.n_isinstance rfl t.n_tuple (by decide +kernel) (d_var (pv 0))))) (dw_or (dt_ne hK room.r.units (d_callB (hK ▸ cd_len) call_len_seq rfl t.n_len (by decide +kernel) (da_cons (d_var (pv 0)) da_nil)) d_int) (dw_or (dt_not (dt_val (d_isi (T := .tuple) hK rfl t.n_isinstance rfl t.n_tuple (by decide +kernel) (d_ix hK (d_var (pv 0)) d_int (fun _ _ => rfl))))) (dw_or1 (dt_ne hK room.r.units (d_callB (hK ▸ cd_len) call_len_seq rfl t.n_len (by decide +kernel) (da_cons (d_ix hK (d_var (pv 0)) d_int (fun _ _ => rfl)) da_nil)) d_int))))))
    (ds_one (ds_ret d_bl))
    ds_nil)
    (ds_cons (ds_if (dt_ne hK room.r.units (d_lcT hK rfl sc.nd (d_addA hK (d_ix hK (d_var (pv 0)) d_int (fun _ _ => rfl)) (d_slice hK (d_var (pv 0)) (do_some d_int) do_none)) (blkOk_by (own := [("_law_it", 1)]) (N := ["_law_thing", "_law_it"]) (sc := defScope s__law_is_tile) (by decide +kernel)) rfl (fun _ _ _ _ _ => pg_name (i := 1) sc.nd rfl (Or.inl rfl)) (fun _ _ _ _ _ => (dts_one (PW.pt (dw_or (dt_not (dt_val (d_isi (T := .int) hK rfl t.n_isinstance rfl t.n_int (by decide +kernel) (d_var (pv 1))))) (dw_or1 (dt_val (d_isi (T := .bool) hK rfl t.n_isinstance rfl t.n_bool (by decide +kernel) (d_var (pv 1))))))))) (fun _ _ _ _ _ => d_int)) (d_lst da_nil))
    (ds_one (ds_ret d_bl))
    ds_nil)
    (ds_one (ds_ret (d_and (d_in hK (d_callB (hK ▸ cd_sum) (cr_sumA rfl) rfl t.n_sum (by decide +kernel) (da_cons (d_ix hK (d_var (pv 0)) d_int (fun _ _ => rfl)) da_nil)) (d_tup (da_cons d_int (da_cons d_int da_nil)))) (d_and (d_ge (d_ix hK (d_var (pv 0)) d_int (fun _ _ => rfl)) d_int) (d_and (d_lt (d_ix hK (d_var (pv 0)) d_int (fun _ _ => rfl)) (d_ix hK (d_var (pv 0)) d_int (fun _ _ => rfl))) (d_one (d_lt (d_ix hK (d_var (pv 0)) d_int (fun _ _ => rfl)) d_int)))))))))
def T__law_odd : TDS := (dSeq (dAsg (dLst (dCons (dC .non) (dCons (dC (.bl true)) (dCons (dC (.bl false)) (dCons (dC (.int 0)) (dCons (dC (.int 1)) (dCons (dUn gNeg (dC (.int 1))) (dCons (dC (.int 4)) (dCons (dC (.int 5)) (dCons (dC (.str "")) (dCons (dC (.str "0")) (dCons (dTup dNil) (dCons (dTup (dCons (dTup dNil) dNil)) (dCons (dLst dNil) (dCons (dC (.dct [] [])) (dCons (dTup (dCons (dC (.int 0)) (dCons (dC (.int 0)) (dCons (dC (.int 1)) (dCons (dC (.int 0)) (dCons (dC (.int 1)) dNil)))))) (dCons (dTup (dCons (dC (.int 1)) (dCons (dC (.int 0)) (dCons (dC (.int 0)) (dCons (dC (.int 0)) (dCons (dC (.int 0)) dNil)))))) (dCons (dTup (dCons (dC (.int 0)) (dCons (dC (.int 0)) (dCons (dC (.int 0)) (dCons (dC (.int 0)) (dCons (dC (.int 0)) dNil)))))) dNil)))))))))))))))))) (dgName 2))
    (dSeq (dAsg (dBin gAddA (dVar 2) (dLst (dCons (dC (.str "a\n~")) (dCons (dTup (dCons (dC (.int 0)) (dCons (dC (.int 1)) dNil))) (dCons (dTup (dCons (dTup (dCons (dC (.int 0)) (dCons (dC (.int 0)) (dCons (dC (.int 1)) (dCons (dC (.int 0)) (dCons (dC (.int 1)) dNil)))))) (dCons (dC (.int 0)) dNil))) (dCons (dTup (dCons (dTup (dCons (dC (.int 0)) (dCons (dC (.int 0)) (dCons (dC (.int 1)) (dCons (dC (.int 0)) (dCons (dC (.int 0)) dNil)))))) (dCons (dC (.int 1)) (dCons (dC (.int 4)) dNil)))) (dCons (dTup (dCons (dTup (dCons (dC (.int 0)) (dCons (dC (.int 0)) (dCons (dC (.int 1)) (dCons (dC (.int 0)) (dCons (dC (.int 0)) dNil)))))) (dCons (dC (.int 4)) (dCons (dC (.int 1)) dNil)))) (dCons (dTup (dCons (dTup (dCons (dC (.int 0)) (dCons (dC (.int 0)) (dCons (dC (.int 2)) (dCons (dC (.int 0)) (dCons (dC (.int 1)) dNil)))))) (dCons (dC (.int 0)) (dCons (dC (.int 1)) dNil)))) dNil)))))))) (dgName 2))
    (dSeq (dAsg (dBin gAddA (dVar 2) (dLst (dCons (dTup (dCons (dTup (dCons (dC (.int 1)) (dCons (dC (.int 0)) (dCons (dC (.int 0)) (dCons (dC (.int 0)) (dCons (dC (.int 0)) dNil)))))) (dCons (dC (.int 2)) (dCons (dC (.int 2)) dNil)))) (dCons (dTup (dCons (dTup (dCons (dC (.bl true)) (dCons (dC (.int 0)) (dCons (dC (.int 0)) (dCons (dC (.int 0)) (dCons (dC (.int 0)) dNil)))))) (dCons (dC (.int 0)) (dCons (dC (.int 1)) dNil)))) (dCons (dTup (dCons (dTup (dCons (dC (.int 1)) (dCons (dC (.int 0)) (dCons (dC (.int 0)) (dCons (dC (.int 0)) (dCons (dC (.int 0)) dNil)))))) (dCons (dC (.int 0)) (dCons (dC (.bl true)) dNil)))) (dCons (dDict1 (.inr "k") (dTup (dCons (dC (.int 0)) (dCons (dC (.int 1)) dNil)))) (dCons (dTup (dCons (dC (.int 2)) (dCons (dC (.int 0)) (dCons (dC (.int 1)) dNil)))) (dCons (dUn gNeg (dC (.int 3))) dNil)))))))) (dgName 2))
    (dSeq (dIfS (dTest (dUn (gIs .tuple) (dVar 1)))
    (dAsg (dBin gAddA (dVar 2) (dBin gMulA (dLst (dCons (dCB gList (dCons (dVar 1) dNil)) (dCons (dBin gAddA (dVar 1) (dTup (dCons (dC (.int 0)) dNil))) (dCons (dSl (dVar 1) (dPart (dC (.int 1))) dNoPart) (dCons (dSl (dVar 1) dNoPart (dPart (dUn gNeg (dC (.int 1))))) (dCons (dUn gRev (dVar 1)) (dCons (dTup (dCons (dVar 1) dNil)) (dCons (dBin gAddA (dSl (dVar 1) dNoPart (dPart (dC (.int 1)))) (dVar 1)) (dCons (dBin gAddA (dSl (dVar 1) (dPart (dC (.int 1))) dNoPart) (dSl (dVar 1) dNoPart (dPart (dC (.int 1))))) dNil))))))))) (dC (.int 3)))) (dgName 2))
    (dIfS (dTest (dUn (gIs .int) (dVar 1)))
    (dAsg (dBin gAddA (dVar 2) (dBin gMulA (dLst (dCons (dBin gAddA (dVar 1) (dC (.int 1))) (dCons (dBin gSub (dVar 1) (dC (.int 1))) (dCons (dUn gNeg (dVar 1)) (dCons (dBin gEq (dVar 1) (dC (.int 1))) (dCons (dLst (dCons (dVar 1) dNil)) (dCons (dTup (dCons (dVar 1) dNil)) (dCons (dCB gStr (dCons (dVar 1) dNil)) (dCons (dBin gEq (dVar 1) (dC (.int 0))) dNil))))))))) (dC (.int 4)))) (dgName 2))
    dNext))
    (dRet (dCall 2 tf__law_pick (dCons (dVar 0) (dCons (dVar 2) dNil))))))))
def tf__law_odd : TF := fun _ ds Q => tfOf 3 T__law_odd (fun _ => False) ds Q
theorem ok__law_odd (t : Tx K mg) : FnG P w K mg base CX0 3 t.a__law_odd t.d__law_odd ["_law_deck_here", "_law_it"] (spD K 2 tf__law_odd) := by
  have sc := sc__law_odd
  exact fng_data (N := ["_law_deck_here", "_law_it", "_law_some"]) (T := T__law_odd) t.F__law_odd sc fun cdv A outer s H E F hK hF room =>
    (ds_cons (ds_set (i := 2) sc.nd rfl (by first | exact Or.inl rfl | exact Or.inr rfl) (d_lst (da_cons d_non (da_cons d_bl (da_cons d_bl (da_cons d_int (da_cons d_int (da_cons (d_neg d_int) (da_cons d_int (da_cons d_int (da_cons d_str (da_cons d_str (da_cons (d_tup da_nil) (da_cons (d_tup (da_cons (d_tup da_nil) da_nil)) (da_cons (d_lst da_nil) (da_cons d_dict0 (da_cons (d_tup (da_cons d_int (da_cons d_int (da_cons d_int (da_cons d_int (da_cons d_int da_nil)))))) (da_cons (d_tup (da_cons d_int (da_cons d_int (da_cons d_int (da_cons d_int (da_cons d_int da_nil)))))) (da_cons (d_tup (da_cons d_int (da_cons d_int (da_cons d_int (da_cons d_int (da_cons d_int da_nil)))))) da_nil)))))))))))))))))))
    (ds_cons (ds_set (i := 2) sc.nd rfl (by first | exact Or.inl rfl | exact Or.inr rfl) (d_addA hK (d_var (pv 2)) (d_lst (da_cons d_str (da_cons (d_tup (da_cons d_int (da_cons d_int da_nil))) (da_cons (d_tup (da_cons (d_tup (da_cons d_int (da_cons d_int (da_cons d_int (da_cons d_int (da_cons d_int da_nil)))))) (da_cons d_int da_nil))) (da_cons (d_tup (da_cons (d_tup (da_cons d_int (da_cons d_int (da_cons d_int (da_cons d_int (da_cons d_int da_nil)))))) (da_cons d_int (da_cons d_int da_nil)))) (da_cons (d_tup (da_cons (d_tup (da_cons d_int (da_cons d_int (da_cons d_int (da_cons d_int (da_cons d_int da_nil)))))) (da_cons d_int (da_cons d_int da_nil)))) (da_cons (d_tup (da_cons (d_tup (da_cons d_int (da_cons d_int (da_cons d_int (da_cons d_int (da_cons d_int da_nil)))))) (da_cons d_int (da_cons d_int da_nil)))) da_nil)))))))))
    (ds_cons (ds_set (i := 2) sc.nd rfl (by first | exact Or.inl rfl | exact Or.inr rfl) (d_addA hK (d_var (pv 2)) (d_lst (da_cons (d_tup (da_cons (d_tup (da_cons d_int (da_cons d_int (da_cons d_int (da_cons d_int (da_cons d_int da_nil)))))) (da_cons d_int (da_cons d_int da_nil)))) (da_cons (d_tup (da_cons (d_tup (da_cons d_bl (da_cons d_int (da_cons d_int (da_cons d_int (da_cons d_int da_nil)))))) (da_cons d_int (da_cons d_int da_nil)))) (da_cons (d_tup (da_cons (d_tup (da_cons d_int (da_cons d_int (da_cons d_int (da_cons d_int (da_cons d_int da_nil)))))) (da_cons d_int (da_cons d_bl da_nil)))) (da_cons (d_dict1 pe_str (d_tup (da_cons d_int (da_cons d_int da_nil)))) (da_cons (d_tup (da_cons d_int (da_cons d_int (da_cons d_int da_nil)))) (da_cons (d_neg d_int) da_nil)))))))))
    (ds_cons (ds_if (dt_val (d_isi (T := .tuple) hK rfl t.n_isinstance rfl t.n_tuple (by decide +kernel) (d_var (pv 1))))
    (ds_one (ds_set (i := 2) sc.nd rfl (by first | exact Or.inl rfl | exact Or.inr rfl) (d_addA hK (d_var (pv 2)) (d_mulA (d_lst (da_cons (d_callTy (hK ▸ cd_list) call_list_of rfl t.n_list (by decide +kernel) (da_cons (d_var (pv 1)) da_nil)) (da_cons (d_addA hK (d_var (pv 1)) (d_tup (da_cons d_int da_nil))) (da_cons (d_slice hK (d_var (pv 1)) (do_some d_int) do_none) (da_cons (d_slice hK (d_var (pv 1)) do_none (do_some (d_neg d_int))) (da_cons (d_rev hK (d_var (pv 1))) (da_cons (d_tup (da_cons (d_var (pv 1)) da_nil)) (da_cons (d_addA hK (d_slice hK (d_var (pv 1)) do_none (do_some d_int)) (d_var (pv 1))) (da_cons (d_addA hK (d_slice hK (d_var (pv 1)) (do_some d_int) do_none) (d_slice hK (d_var (pv 1)) do_none (do_some d_int))) da_nil))))))))) d_int))))
    (ds_one (ds_if (dt_val (d_isi (T := .int) hK rfl t.n_isinstance rfl t.n_int (by decide +kernel) (d_var (pv 1))))
    (ds_one (ds_set (i := 2) sc.nd rfl (by first | exact Or.inl rfl | exact Or.inr rfl) (d_addA hK (d_var (pv 2)) (d_mulA (d_lst (da_cons (d_addA hK (d_var (pv 1)) d_int) (da_cons (d_sub (d_var (pv 1)) d_int) (da_cons (d_neg (d_var (pv 1))) (da_cons (d_eq hK room.r.units (d_var (pv 1)) d_int) (da_cons (d_lst (da_cons (d_var (pv 1)) da_nil)) (da_cons (d_tup (da_cons (d_var (pv 1)) da_nil)) (da_cons (d_callTy cd_str call_str_int rfl t.n_str (by decide +kernel) (da_cons (d_var (pv 1)) da_nil)) (da_cons (d_eq hK room.r.units (d_var (pv 1)) d_int) da_nil))))))))) d_int))))
    ds_nil)))
    (ds_one (ds_ret (d_call (ok__law_pick t) hK (room.mono (by decide)) rfl t.m__law_pick t.F__law_pick.kp (b__law_pick t) (da_cons (d_var (pv 0)) (da_cons (d_var (pv 2)) da_nil)))))))))
def T__law_bent (g : TF) : TDS := (dSeq (dIfS (dtOr (dtNot (dTest (dUn (gIs .tuple) (dVar 1)))) (dtOr (dTest (dBin gEq (dVar 1) (dTup dNil))) (dTest (dBin gEq (dCall 2 tf_draw (dCons (dVar 0) (dCons (dC (.int 4)) dNil))) (dC (.int 0))))))
    (dRet (dCall 2 tf__law_odd (dCons (dVar 0) (dCons (dVar 1) dNil))))
    dNext)
    (dSeq (dAsg (dCall 2 tf_draw (dCons (dVar 0) (dCons (dCB gLen (dCons (dVar 1) dNil)) dNil))) (dgName 2))
    (dRet (dBin gAddA (dBin gAddA (dSl (dVar 1) dNoPart (dPart (dVar 2))) (dTup (dCons (dCall 2 g (dCons (dVar 0) (dCons (dBin gIx (dVar 1) (dVar 2)) dNil))) dNil))) (dSl (dVar 1) (dPart (dBin gAddA (dVar 2) (dC (.int 1)))) dNoPart)))))
def tf__law_bent : Nat → TF
  | 0 => fun _ _ _ => False
  | n + 1 => fun _ ds Q => tfOf 3 (T__law_bent (tf__law_bent n)) (fun _ => False) ds Q
theorem ok__law_bent (t : Tx K mg) : ∀ n : Nat, FnG P w K mg base CX0 (4 + n) t.a__law_bent t.d__law_bent ["_law_deck_here", "_law_it"] (spD K 2 (tf__law_bent n))
  | 0 => fng_false
  | n + 1 => by
    have sc := sc__law_bent
    exact fng_data (k := 4 + n) (N := ["_law_deck_here", "_law_it", "_law_at"]) (T := T__law_bent (tf__law_bent n)) t.F__law_bent sc fun cdv A outer s H E F hK hF room =>
    (ds_cons (ds_if (PW.pt (dw_or (dt_not (dt_val (d_isi (T := .tuple) hK rfl t.n_isinstance rfl t.n_tuple (by decide +kernel) (d_var (pv 1))))) (dw_or (dt_eq hK room.r.units (d_var (pv 1)) (d_tup da_nil)) (dw_or1 (dt_eq hK room.r.units (d_call (ok__law_draw t) hK (room.mono (by omega)) rfl t.m__law_draw t.F__law_draw.kp (b__law_draw t) (da_cons (d_var (pv 0)) (da_cons d_int da_nil))) d_int)))))
    (ds_one (ds_ret (d_call (ok__law_odd t) hK (room.mono (by omega)) rfl t.m__law_odd t.F__law_odd.kp (b__law_odd t) (da_cons (d_var (pv 0)) (da_cons (d_var (pv 1)) da_nil)))))
    ds_nil)
    (ds_cons (ds_set (i := 2) sc.nd rfl (by first | exact Or.inl rfl | exact Or.inr rfl) (d_call (ok__law_draw t) hK (room.mono (by omega)) rfl t.m__law_draw t.F__law_draw.kp (b__law_draw t) (da_cons (d_var (pv 0)) (da_cons (d_callB (hK ▸ cd_len) call_len_seq rfl t.n_len (by decide +kernel) (da_cons (d_var (pv 1)) da_nil)) da_nil))))
    (ds_one (ds_ret (d_addA hK (d_addA hK (d_slice hK (d_var (pv 1)) do_none (do_some (d_var (pv 2)))) (d_tup (da_cons (d_call (ok__law_bent t n) hK (room.mono (by omega)) rfl t.m__law_bent t.F__law_bent.kp (b__law_bent t) (da_cons (d_var (pv 0)) (da_cons (d_ix hK (d_var (pv 1)) (d_var (pv 2)) (fun _ _ => rfl)) da_nil))) da_nil))) (d_slice hK (d_var (pv 1)) (do_some (d_addA hK (d_var (pv 2)) d_int)) do_none))))))
def T__law_maybe : TDS := (dRet (dIf (dTest (dBin gEq (dCall 2 tf_draw (dCons (dVar 0) (dCons (dC (.int 3)) dNil))) (dC (.int 0)))) (dCall 2 (tf__law_bent 3) (dCons (dVar 0) (dCons (dVar 1) dNil))) (dVar 1)))
def tf__law_maybe : TF := fun _ ds Q => tfOf 2 T__law_maybe (fun _ => False) ds Q
theorem ok__law_maybe (t : Tx K mg) : FnG P w K mg base CX0 8 t.a__law_maybe t.d__law_maybe ["_law_deck_here", "_law_it"] (spD K 2 tf__law_maybe) := by
  have sc := sc__law_maybe
  exact fng_data (N := ["_law_deck_here", "_law_it"]) (T := T__law_maybe) t.F__law_maybe sc fun cdv A outer s H E F hK hF room =>
    (ds_one (ds_ret (d_if (dt_eq hK room.r.units (d_call (ok__law_draw t) hK (room.mono (by decide)) rfl t.m__law_draw t.F__law_draw.kp (b__law_draw t) (da_cons (d_var (pv 0)) (da_cons d_int da_nil))) d_int) (d_call (ok__law_bent t 3) hK (room.mono (by decide)) rfl t.m__law_bent t.F__law_bent.kp (b__law_bent t) (da_cons (d_var (pv 0)) (da_cons (d_var (pv 1)) da_nil))) (d_var (pv 1)))))
def T__law_told (Th : TDE) : TDS := (dSeq (dTryN [⟨mm_BadTile, some 2, fun a y => (dRet (dTup (dCons (dC (.str "tile")) (dCons (dXf a y 2 "thing") (dCons (dOr (dIsX a y 2 is_BadEdge) (dOr (dIsX a y 2 is_BadCorner) (dNot (dIsX a y 2 is_FloorError)))) dNil)))))⟩,
      ⟨mm_BadEdge, some 2, fun a y => (dRet (dTup (dCons (dC (.str "edge")) (dCons (dXf a y 2 "thing") (dCons (dOr (dIsX a y 2 is_BadTile) (dOr (dIsX a y 2 is_BadCorner) (dNot (dIsX a y 2 is_FloorError)))) dNil)))))⟩,
      ⟨mm_FloorError, none, fun a y => (dRet (dTup (dCons (dC (.str "other")) (dCons (dC .non) (dCons (dC (.bl true)) dNil)))))⟩]
    (dAsg Th (dgName 1)))
    (dRet (dTup (dCons (dC (.str "told")) (dCons (dVar 1) dNil)))))
theorem told__law_told (t : Tx K mg) (cdv : Value) (A : Around) (outer : List Env) (s : Shared) (H : Hp) (F2 : FP) (Th : TDE) (hK : F2.K = K) (hF : F2.ex = fun _ _ => False)
    (hole : ∀ (W : WX) (pn : List (Addr × Obj)) (xe : Value → Shared → Prop) (F' : FP) (p1 p2 : Pos), Takes ((cxOf CX0 P w K mg base ["_law_call", "_law_told_here", "e"] "_law_told" (defScope s__law_told) t.a__law_told cdv A outer s H E0).tr pn xe) W → Sub F2 F' → WOk F' W →
      PE ((cxOf CX0 P w K mg base ["_law_call", "_law_told_here", "e"] "_law_told" (defScope s__law_told) t.a__law_told cdv A outer s H E0).tr pn xe) (.Call (.Name "_law_call" p1) [] [] p2) (tD F' Th)) :
    PSs (cxOf CX0 P w K mg base ["_law_call", "_law_told_here", "e"] "_law_told" (defScope s__law_told) t.a__law_told cdv A outer s H E0).nox (defBody s__law_told) (sD F2 (T__law_told Th)) := by
  have sc := sc__law_told
  exact (ds_cons (ds_tryN hK rfl rfl sc.nd takes_none5 (wok_none hF) (fun W pn xe F' tk' po' sub' wo' => have hK := sub'.k.trans hK
    (ds_one (ds_set (i := 1) sc.nd rfl (by first | exact Or.inl rfl | exact Or.inr rfl) (hole W pn xe F' _ _ tk' sub' wo'))))
    (.named (i := 2) (cl := ⟨mm_BadTile, some 2, fun a y => (dRet (dTup (dCons (dC (.str "tile")) (dCons (dXf a y 2 "thing") (dCons (dOr (dIsX a y 2 is_BadEdge) (dOr (dIsX a y 2 is_BadCorner) (dNot (dIsX a y 2 is_FloorError)))) dNil)))))⟩) rfl rfl ⟨rfl, by decide, .inl t.R_BadTile.2⟩ rfl (hm_BadTile t) (fun a oe cls d pn y F' hz hv S => have hKo := hK; have hK := S.k.trans hK; (ds_one (ds_ret (d_tup (da_cons d_str (da_cons (d_xf hKo S hz hv (xf_BadTile t S.m) (pv 2)) (da_cons (d_or (d_isX hKo S hz hv (es_BadTile t S.m) (pv 2) (kt_BadEdge t _) (by rfl) t.n_isinstance (by rfl) t.R_BadEdge.2) (d_or (d_isX hKo S hz hv (es_BadTile t S.m) (pv 2) (kt_BadCorner t _) (by rfl) t.n_isinstance (by rfl) t.R_BadCorner.2) (d_one (d_not (d_isX hKo S hz hv (es_BadTile t S.m) (pv 2) (kt_FloorError t _) (by rfl) t.n_isinstance (by rfl) t.R_FloorError.2))))) da_nil)))))))
    (.named (i := 2) (cl := ⟨mm_BadEdge, some 2, fun a y => (dRet (dTup (dCons (dC (.str "edge")) (dCons (dXf a y 2 "thing") (dCons (dOr (dIsX a y 2 is_BadTile) (dOr (dIsX a y 2 is_BadCorner) (dNot (dIsX a y 2 is_FloorError)))) dNil)))))⟩) rfl rfl ⟨rfl, by decide, .inl t.R_BadEdge.2⟩ rfl (hm_BadEdge t) (fun a oe cls d pn y F' hz hv S => have hKo := hK; have hK := S.k.trans hK; (ds_one (ds_ret (d_tup (da_cons d_str (da_cons (d_xf hKo S hz hv (xf_BadEdge t S.m) (pv 2)) (da_cons (d_or (d_isX hKo S hz hv (es_BadEdge t S.m) (pv 2) (kt_BadTile t _) (by rfl) t.n_isinstance (by rfl) t.R_BadTile.2) (d_or (d_isX hKo S hz hv (es_BadEdge t S.m) (pv 2) (kt_BadCorner t _) (by rfl) t.n_isinstance (by rfl) t.R_BadCorner.2) (d_one (d_not (d_isX hKo S hz hv (es_BadEdge t S.m) (pv 2) (kt_FloorError t _) (by rfl) t.n_isinstance (by rfl) t.R_FloorError.2))))) da_nil)))))))
    (.one (cl := ⟨mm_FloorError, none, fun a y => (dRet (dTup (dCons (dC (.str "other")) (dCons (dC .non) (dCons (dC (.bl true)) dNil)))))⟩) ⟨rfl, by decide, .inl t.R_FloorError.2⟩ rfl (hm_FloorError t) (fun a oe cls d pn y F' hz hv S => have hKo := hK; have hK := S.k.trans hK; (ds_one (ds_ret (d_tup (da_cons d_str (da_cons d_non (da_cons d_bl da_nil))))))) .nil))))
    (ds_one (ds_ret (d_tup (da_cons d_str (da_cons (d_var (pv 1)) da_nil))))))
theorem kb_corners_of_tile (t : Tx K mg) : KB t.d_corners_of ["tile"] ["tile"] [0] := kb_of t.F_corners_of fun _ _ _ _ _ _ ws hl => match ws, hl with | [_], _ => rfl
theorem kb_edges_of_tile (t : Tx K mg) : KB t.d_edges_of ["tile"] ["tile"] [0] := kb_of t.F_edges_of fun _ _ _ _ _ _ ws hl => match ws, hl with | [_], _ => rfl
theorem kb_is_low_tile (t : Tx K mg) : KB t.d_is_low ["tile"] ["tile"] [0] := kb_of t.F_is_low fun _ _ _ _ _ _ ws hl => match ws, hl with | [_], _ => rfl
theorem kb_is_thick_tile (t : Tx K mg) : KB t.d_is_thick ["tile"] ["tile"] [0] := kb_of t.F_is_thick fun _ _ _ _ _ _ ws hl => match ws, hl with | [_], _ => rfl
theorem kb_is_tile_row_thing (t : Tx K mg) : KB t.d_is_tile_row ["thing"] ["thing"] [0] := kb_of t.F_is_tile_row fun _ _ _ _ _ _ ws hl => match ws, hl with | [_], _ => rfl
theorem kb_marks_of_tile (t : Tx K mg) : KB t.d_marks_of ["tile"] ["tile"] [0] := kb_of t.F_marks_of fun _ _ _ _ _ _ ws hl => match ws, hl with | [_], _ => rfl
def T__law_is_alone_right : TDS := (dSeq (dIfS (dtNot (dTest (dCall 2 tf__law_same (dCons (dTup (dCons (dCall 1 tf_is_tile_row (dCons (dVar 0) dNil)) (dCons (dCallK 1 1 [0] tf_is_tile_row (dCons (dVar 0) dNil)) dNil))) (dCons (dTup (dCons (dCall 1 tf__law_is_tile (dCons (dVar 0) dNil)) (dCons (dCall 1 tf__law_is_tile (dCons (dVar 0) dNil)) dNil))) dNil)))))
    (dRet (dC (.bl false)))
    dNext)
    (dSeq (dOwn (lRep (dLst (dCons (dTup (dCons (dC (.str "tile")) (dCons (dVar 0) (dCons (dC (.bl false)) dNil)))) dNil)) (dC (.int 5))) 1)
    (dSeq (dIfS (dTest (dCall 1 tf__law_is_tile (dCons (dVar 0) dNil)))
    (dSeq (dAsg (dVar 0) (dgTup 3 (dgCons (dgName 2) (dgCons (dgName 3) (dgCons (dgName 4) dgNil)))))
    (dSeq (dAsg (dCB gTuple (dCons (dLc (dCall 1 tf__law_borders (dCons (dVar 0) dNil)) 6 dYes (dBin gIx (dVar 6) (dC (.int 0)))) dNil)) (dgName 5))
    (dSeq (dAsg (dTup (dCons (dVar 2) (dCons (dCall 3 tf__law_step (dCons (dVar 2) (dCons (dVar 3) (dCons (dC (.int 1)) dNil)))) (dCons (dCall 3 tf__law_step (dCons (dVar 2) (dCons (dVar 4) (dCons (dC (.int 1)) dNil)))) (dCons (dCall 3 tf__law_step (dCons (dCall 3 tf__law_step (dCons (dVar 2) (dCons (dVar 3) (dCons (dC (.int 1)) dNil)))) (dCons (dVar 4) (dCons (dC (.int 1)) dNil)))) dNil))))) (dgName 7))
    (dSeq (dOwn (lLst (dCons (dTup (dCons (dC (.str "told")) (dCons (dVar 7) dNil))) (dCons (dTup (dCons (dC (.str "told")) (dCons (dVar 5) dNil))) (dCons (dTup (dCons (dC (.str "told")) (dCons (dBin (gIn false) (dBin gSub (dVar 4) (dVar 3)) (dTup (dCons (dC (.int 1)) (dCons (dC (.int 4)) dNil)))) dNil))) (dCons (dTup (dCons (dC (.str "told")) (dCons (dBin gEq (dCB gSum (dCons (dVar 2) dNil)) (dC (.int 1))) dNil))) dNil))))) 1)
    (dApp 1 (dTup (dCons (dC (.str "told")) (dCons (dCB gTuple (dCons (dLcV 5 8 dYes (dCall 2 tf__law_mark (dCons (dVar 0) (dCons (dVar 8) dNil)))) dNil)) dNil))))))))
    dNext)
    (dFreeze 1 (dSeq (dOwn (lLst (dCons (dLam 3 T__law_told (dCallX 1 tf_corners_of (dCons (dVar 0) dNil))) dNil)) 9)
    (dSeq (dApp 9 (dLam 3 T__law_told (dCallX 1 tf_edges_of (dCons (dVar 0) dNil))))
    (dSeq (dApp 9 (dLam 3 T__law_told (dCallX 1 tf_is_thick (dCons (dVar 0) dNil))))
    (dSeq (dApp 9 (dLam 3 T__law_told (dCallX 1 tf_is_low (dCons (dVar 0) dNil))))
    (dSeq (dApp 9 (dLam 3 T__law_told (dCallX 1 tf_marks_of (dCons (dVar 0) dNil))))
    (dSeq (dApp 9 (dLam 3 T__law_told (dCallKX 1 1 [0] tf_corners_of (dCons (dVar 0) dNil))))
    (dSeq (dApp 9 (dLam 3 T__law_told (dCallKX 1 1 [0] tf_edges_of (dCons (dVar 0) dNil))))
    (dSeq (dApp 9 (dLam 3 T__law_told (dCallKX 1 1 [0] tf_is_thick (dCons (dVar 0) dNil))))
    (dSeq (dApp 9 (dLam 3 T__law_told (dCallKX 1 1 [0] tf_is_low (dCons (dVar 0) dNil))))
    (dSeq (dApp 9 (dLam 3 T__law_told (dCallKX 1 1 [0] tf_marks_of (dCons (dVar 0) dNil))))
    (dFreeze 9 (dRet (dCall 2 tf__law_same (dCons (dVar 9) (dCons (dBin gAddA (dVar 1) (dVar 1)) dNil)))))))))))))))))))
def tf__law_is_alone_right : TF := fun _ ds Q => tfOf 10 T__law_is_alone_right (fun _ => False) ds Q
theorem ok__law_is_alone_right (t : Tx K mg) (tb : TBs K mg base TN) : FnG P w K mg base CX0 11 t.a__law_is_alone_right t.d__law_is_alone_right ["_law_thing"] (spD K 1 tf__law_is_alone_right) := by
  have sc := sc__law_is_alone_right
  exact fng_dataC (n := "_law_is_alone_right") (N := ["_law_thing", "_law_due", "_law_k", "_law_r", "_law_s", "_law_sides", "_law_it", "_law_four", "_law_edge", "_law_told_here"]) (T := T__law_is_alone_right) t.F__law_is_alone_right sc t.E__law_is_alone_right fun cdv A outer s H E F hK hF room hcd =>
    (ds_cons (ds_if (dt_not (dt_val (d_call (ok__law_same t) hK (room.mono (by decide)) rfl t.m__law_same t.F__law_same.kp (b__law_same t) (da_cons (d_tup (da_cons (d_call (ok_is_tile_row t) hK (room.mono (by decide)) rfl t.m_is_tile_row t.F_is_tile_row.kp (b_is_tile_row t) (da_cons (d_var (pv 0)) da_nil)) (da_cons (d_callK (ok_is_tile_row t) hK (room.mono (by decide)) rfl t.m_is_tile_row t.F_is_tile_row.kp (kb_is_tile_row_thing t) (dk_cons (d_var (pv 0)) dk_nil)) da_nil))) (da_cons (d_tup (da_cons (d_call (ok__law_is_tile t) hK (room.mono (by decide)) rfl t.m__law_is_tile t.F__law_is_tile.kp (b__law_is_tile t) (da_cons (d_var (pv 0)) da_nil)) (da_cons (d_call (ok__law_is_tile t) hK (room.mono (by decide)) rfl t.m__law_is_tile t.F__law_is_tile.kp (b__law_is_tile t) (da_cons (d_var (pv 0)) da_nil)) da_nil))) da_nil)))))
    (ds_one (ds_ret d_bl))
    ds_nil)
    (ds_cons (ds_own (i := 1) sc.nd rfl (by first | exact Or.inl rfl | exact Or.inr rfl) (l_rep (d_lst (da_cons (d_tup (da_cons d_str (da_cons (d_var (pv 0)) (da_cons d_bl da_nil)))) da_nil)) d_int))
    (ds_cons (ds_if (dt_val (d_call (ok__law_is_tile t) hK (room.mono (by decide)) rfl t.m__law_is_tile t.F__law_is_tile.kp (b__law_is_tile t) (da_cons (d_var (pv 0)) da_nil)))
    (ds_cons (ds_asg (d_var (pv 0)) (dg_tup hK rfl (dgs_cons (dg_name (pg_name (i := 2) sc.nd rfl (by first | exact Or.inl rfl | exact Or.inr rfl))) (dgs_cons (dg_name (pg_name (i := 3) sc.nd rfl (by first | exact Or.inl rfl | exact Or.inr rfl))) (dgs_cons (dg_name (pg_name (i := 4) sc.nd rfl (by first | exact Or.inl rfl | exact Or.inr rfl))) dgs_nil)))))
    (ds_cons (ds_set (i := 5) sc.nd rfl (by first | exact Or.inl rfl | exact Or.inr rfl) (d_callTy (hK ▸ cd_tuple) call_tuple_of rfl t.n_tuple (by decide +kernel) (da_cons (d_lc hK rfl sc.nd (d_call (ok__law_borders t) hK (room.mono (by decide)) rfl t.m__law_borders t.F__law_borders.kp (b__law_borders t) (da_cons (d_var (pv 0)) da_nil)) (blkOk_by (own := [("_law_it", 6)]) (N := ["_law_thing", "_law_due", "_law_k", "_law_r", "_law_s", "_law_sides", "_law_it", "_law_four", "_law_edge", "_law_told_here"]) (sc := defScope s__law_is_alone_right) (by decide +kernel)) rfl (fun _ _ _ _ _ => pg_name (i := 6) sc.nd rfl (Or.inl rfl)) (fun _ _ _ _ _ => dts_nil) (fun _ _ _ _ _ => (d_ix hK (d_var (pv 6)) d_int (fun _ _ => rfl)))) da_nil)))
    (ds_cons (ds_set (i := 7) sc.nd rfl (by first | exact Or.inl rfl | exact Or.inr rfl) (d_tup (da_cons (d_var (pv 2)) (da_cons (d_call (ok__law_step t) hK (room.mono (by decide)) rfl t.m__law_step t.F__law_step.kp (b__law_step t) (da_cons (d_var (pv 2)) (da_cons (d_var (pv 3)) (da_cons d_int da_nil)))) (da_cons (d_call (ok__law_step t) hK (room.mono (by decide)) rfl t.m__law_step t.F__law_step.kp (b__law_step t) (da_cons (d_var (pv 2)) (da_cons (d_var (pv 4)) (da_cons d_int da_nil)))) (da_cons (d_call (ok__law_step t) hK (room.mono (by decide)) rfl t.m__law_step t.F__law_step.kp (b__law_step t) (da_cons (d_call (ok__law_step t) hK (room.mono (by decide)) rfl t.m__law_step t.F__law_step.kp (b__law_step t) (da_cons (d_var (pv 2)) (da_cons (d_var (pv 3)) (da_cons d_int da_nil)))) (da_cons (d_var (pv 4)) (da_cons d_int da_nil)))) da_nil))))))
    (ds_cons (ds_own (i := 1) sc.nd rfl (by first | exact Or.inl rfl | exact Or.inr rfl) (l_lst (da_cons (d_tup (da_cons d_str (da_cons (d_var (pv 7)) da_nil))) (da_cons (d_tup (da_cons d_str (da_cons (d_var (pv 5)) da_nil))) (da_cons (d_tup (da_cons d_str (da_cons (d_in hK (d_sub (d_var (pv 4)) (d_var (pv 3))) (d_tup (da_cons d_int (da_cons d_int da_nil)))) da_nil))) (da_cons (d_tup (da_cons d_str (da_cons (d_eq hK room.r.units (d_callB (hK ▸ cd_sum) (cr_sumA rfl) rfl t.n_sum (by decide +kernel) (da_cons (d_var (pv 2)) da_nil)) d_int) da_nil))) da_nil))))))
    (ds_one (ds_app hK (pv 1) (d_tup (da_cons d_str (da_cons (d_callTy (hK ▸ cd_tuple) call_tuple_of rfl t.n_tuple (by decide +kernel) (da_cons (d_lcV hK rfl sc.nd (pv 5) (blkOk_by (own := [("_law_edge", 8)]) (N := ["_law_thing", "_law_due", "_law_k", "_law_r", "_law_s", "_law_sides", "_law_it", "_law_four", "_law_edge", "_law_told_here"]) (sc := defScope s__law_is_alone_right) (by decide +kernel)) rfl (fun _ _ _ _ _ => pg_name (i := 8) sc.nd rfl (Or.inl rfl)) (fun _ _ _ _ _ => dts_nil) (fun _ _ _ _ _ => (d_call (ok__law_mark t) hK (room.mono (by decide)) rfl t.m__law_mark t.F__law_mark.kp (b__law_mark t) (da_cons (d_var (pv 0)) (da_cons (d_var (pv 8)) da_nil))))) da_nil)) da_nil)))))))))
    ds_nil)
    (dss_freeze (i := 1) (ds_cons (ds_own (i := 9) sc.nd rfl (by first | exact Or.inl rfl | exact Or.inr rfl) (l_lst (da_cons (d_lam (k := 7) hK (by rfl) t.m__law_told t.F__law_told.kp t.F__law_told (b__law_told t) sc__law_told rfl (.inl rfl) (fun cdv s H F2 Th hK hF room hole => told__law_told t cdv _ _ s H F2 Th hK hF hole) (tb "_law_is_alone_right" (by decide)) hcd t.T__law_is_alone_right.mem t.T__law_is_alone_right.uni (room.mono (by decide)) (LamX.lamS_by (sc := defScope s__law_is_alone_right) (by decide +kernel)) (by rfl) (fun _ _ _ _ _ => rfl)
      (fun A outer s H E f c' F' hK wo' room => (d_callX (ok_corners_of t) takes_lam wo' hK (room.mono (by decide)) rfl t.m_corners_of t.F_corners_of.kp (b_corners_of t) (da_cons (d_var (pv 0)) da_nil)))) da_nil)))
    (ds_cons (ds_app hK (pv 9) (d_lam (k := 7) hK (by rfl) t.m__law_told t.F__law_told.kp t.F__law_told (b__law_told t) sc__law_told rfl (.inl rfl) (fun cdv s H F2 Th hK hF room hole => told__law_told t cdv _ _ s H F2 Th hK hF hole) (tb "_law_is_alone_right" (by decide)) hcd t.T__law_is_alone_right.mem t.T__law_is_alone_right.uni (room.mono (by decide)) (LamX.lamS_by (sc := defScope s__law_is_alone_right) (by decide +kernel)) (by rfl) (fun _ _ _ _ _ => rfl)
      (fun A outer s H E f c' F' hK wo' room => (d_callX (ok_edges_of t) takes_lam wo' hK (room.mono (by decide)) rfl t.m_edges_of t.F_edges_of.kp (b_edges_of t) (da_cons (d_var (pv 0)) da_nil)))))
    (ds_cons (ds_app hK (pv 9) (d_lam (k := 7) hK (by rfl) t.m__law_told t.F__law_told.kp t.F__law_told (b__law_told t) sc__law_told rfl (.inl rfl) (fun cdv s H F2 Th hK hF room hole => told__law_told t cdv _ _ s H F2 Th hK hF hole) (tb "_law_is_alone_right" (by decide)) hcd t.T__law_is_alone_right.mem t.T__law_is_alone_right.uni (room.mono (by decide)) (LamX.lamS_by (sc := defScope s__law_is_alone_right) (by decide +kernel)) (by rfl) (fun _ _ _ _ _ => rfl)
      (fun A outer s H E f c' F' hK wo' room => (d_callX (ok_is_thick t) takes_lam wo' hK (room.mono (by decide)) rfl t.m_is_thick t.F_is_thick.kp (b_is_thick t) (da_cons (d_var (pv 0)) da_nil)))))
    (ds_cons (ds_app hK (pv 9) (d_lam (k := 7) hK (by rfl) t.m__law_told t.F__law_told.kp t.F__law_told (b__law_told t) sc__law_told rfl (.inl rfl) (fun cdv s H F2 Th hK hF room hole => told__law_told t cdv _ _ s H F2 Th hK hF hole) (tb "_law_is_alone_right" (by decide)) hcd t.T__law_is_alone_right.mem t.T__law_is_alone_right.uni (room.mono (by decide)) (LamX.lamS_by (sc := defScope s__law_is_alone_right) (by decide +kernel)) (by rfl) (fun _ _ _ _ _ => rfl)
      (fun A outer s H E f c' F' hK wo' room => (d_callX (ok_is_low t) takes_lam wo' hK (room.mono (by decide)) rfl t.m_is_low t.F_is_low.kp (b_is_low t) (da_cons (d_var (pv 0)) da_nil)))))
    (ds_cons (ds_app hK (pv 9) (d_lam (k := 8) hK (by rfl) t.m__law_told t.F__law_told.kp t.F__law_told (b__law_told t) sc__law_told rfl (.inl rfl) (fun cdv s H F2 Th hK hF room hole => told__law_told t cdv _ _ s H F2 Th hK hF hole) (tb "_law_is_alone_right" (by decide)) hcd t.T__law_is_alone_right.mem t.T__law_is_alone_right.uni (room.mono (by decide)) (LamX.lamS_by (sc := defScope s__law_is_alone_right) (by decide +kernel)) (by rfl) (fun _ _ _ _ _ => rfl)
      (fun A outer s H E f c' F' hK wo' room => (d_callX (ok_marks_of t) takes_lam wo' hK (room.mono (by decide)) rfl t.m_marks_of t.F_marks_of.kp (b_marks_of t) (da_cons (d_var (pv 0)) da_nil)))))
    (ds_cons (ds_app hK (pv 9) (d_lam (k := 7) hK (by rfl) t.m__law_told t.F__law_told.kp t.F__law_told (b__law_told t) sc__law_told rfl (.inl rfl) (fun cdv s H F2 Th hK hF room hole => told__law_told t cdv _ _ s H F2 Th hK hF hole) (tb "_law_is_alone_right" (by decide)) hcd t.T__law_is_alone_right.mem t.T__law_is_alone_right.uni (room.mono (by decide)) (LamX.lamS_by (sc := defScope s__law_is_alone_right) (by decide +kernel)) (by rfl) (fun _ _ _ _ _ => rfl)
      (fun A outer s H E f c' F' hK wo' room => (d_callKX (ok_corners_of t) takes_lam wo' hK (room.mono (by decide)) rfl t.m_corners_of t.F_corners_of.kp (kb_corners_of_tile t) (dk_cons (d_var (pv 0)) dk_nil)))))
    (ds_cons (ds_app hK (pv 9) (d_lam (k := 7) hK (by rfl) t.m__law_told t.F__law_told.kp t.F__law_told (b__law_told t) sc__law_told rfl (.inl rfl) (fun cdv s H F2 Th hK hF room hole => told__law_told t cdv _ _ s H F2 Th hK hF hole) (tb "_law_is_alone_right" (by decide)) hcd t.T__law_is_alone_right.mem t.T__law_is_alone_right.uni (room.mono (by decide)) (LamX.lamS_by (sc := defScope s__law_is_alone_right) (by decide +kernel)) (by rfl) (fun _ _ _ _ _ => rfl)
      (fun A outer s H E f c' F' hK wo' room => (d_callKX (ok_edges_of t) takes_lam wo' hK (room.mono (by decide)) rfl t.m_edges_of t.F_edges_of.kp (kb_edges_of_tile t) (dk_cons (d_var (pv 0)) dk_nil)))))
    (ds_cons (ds_app hK (pv 9) (d_lam (k := 7) hK (by rfl) t.m__law_told t.F__law_told.kp t.F__law_told (b__law_told t) sc__law_told rfl (.inl rfl) (fun cdv s H F2 Th hK hF room hole => told__law_told t cdv _ _ s H F2 Th hK hF hole) (tb "_law_is_alone_right" (by decide)) hcd t.T__law_is_alone_right.mem t.T__law_is_alone_right.uni (room.mono (by decide)) (LamX.lamS_by (sc := defScope s__law_is_alone_right) (by decide +kernel)) (by rfl) (fun _ _ _ _ _ => rfl)
      (fun A outer s H E f c' F' hK wo' room => (d_callKX (ok_is_thick t) takes_lam wo' hK (room.mono (by decide)) rfl t.m_is_thick t.F_is_thick.kp (kb_is_thick_tile t) (dk_cons (d_var (pv 0)) dk_nil)))))
    (ds_cons (ds_app hK (pv 9) (d_lam (k := 7) hK (by rfl) t.m__law_told t.F__law_told.kp t.F__law_told (b__law_told t) sc__law_told rfl (.inl rfl) (fun cdv s H F2 Th hK hF room hole => told__law_told t cdv _ _ s H F2 Th hK hF hole) (tb "_law_is_alone_right" (by decide)) hcd t.T__law_is_alone_right.mem t.T__law_is_alone_right.uni (room.mono (by decide)) (LamX.lamS_by (sc := defScope s__law_is_alone_right) (by decide +kernel)) (by rfl) (fun _ _ _ _ _ => rfl)
      (fun A outer s H E f c' F' hK wo' room => (d_callKX (ok_is_low t) takes_lam wo' hK (room.mono (by decide)) rfl t.m_is_low t.F_is_low.kp (kb_is_low_tile t) (dk_cons (d_var (pv 0)) dk_nil)))))
    (ds_cons (ds_app hK (pv 9) (d_lam (k := 8) hK (by rfl) t.m__law_told t.F__law_told.kp t.F__law_told (b__law_told t) sc__law_told rfl (.inl rfl) (fun cdv s H F2 Th hK hF room hole => told__law_told t cdv _ _ s H F2 Th hK hF hole) (tb "_law_is_alone_right" (by decide)) hcd t.T__law_is_alone_right.mem t.T__law_is_alone_right.uni (room.mono (by decide)) (LamX.lamS_by (sc := defScope s__law_is_alone_right) (by decide +kernel)) (by rfl) (fun _ _ _ _ _ => rfl)
      (fun A outer s H E f c' F' hK wo' room => (d_callKX (ok_marks_of t) takes_lam wo' hK (room.mono (by decide)) rfl t.m_marks_of t.F_marks_of.kp (kb_marks_of_tile t) (dk_cons (d_var (pv 0)) dk_nil)))))
    (dss_freeze (i := 9) (ds_one (ds_ret (d_call (ok__law_same t) hK (room.mono (by decide)) rfl t.m__law_same t.F__law_same.kp (b__law_same t) (da_cons (d_var (pv 9)) (da_cons (d_addA hK (d_var (pv 1)) (d_var (pv 1))) da_nil))))))))))))))))))))
theorem kb_does_fit_other_one (t : Tx K mg) : KB t.d_does_fit ["one", "other"] ["other", "one"] [1, 0] := kb_of t.F_does_fit fun _ _ _ _ _ _ ws hl => match ws, hl with | [_, _], _ => rfl
theorem kb_is_left_edge_tile (t : Tx K mg) : KB t.d_is_left ["tile", "edge"] ["edge", "tile"] [1, 0] := kb_of t.F_is_left fun _ _ _ _ _ _ ws hl => match ws, hl with | [_, _], _ => rfl
def T__law_are_two_right : TDS := (dSeq (dIfS (dtNot (dTest (dCall 1 tf__law_is_tile (dCons (dVar 0) dNil))))
    (dPar 3 4 (dCons (dTup (dCons (dC (.str "tile")) (dCons (dVar 0) (dCons (dC (.bl false)) dNil)))) (dCons (dTup (dCons (dC (.str "tile")) (dCons (dVar 0) (dCons (dC (.bl false)) dNil)))) dNil)))
    (dSeq (dAsg (dIf (dTest (dCall 1 tf__law_is_tile (dCons (dVar 1) dNil))) (dTup (dCons (dC (.str "told")) (dCons (dCall 2 tf__law_do_fit (dCons (dVar 0) (dCons (dVar 1) dNil))) dNil))) (dTup (dCons (dC (.str "tile")) (dCons (dVar 1) (dCons (dC (.bl false)) dNil))))) (dgName 3))
    (dSeq (dAsg (dLc (dCall 1 tf__law_borders (dCons (dVar 0) dNil)) 6 (dTest (dBin gEq (dCB gReprR (dCons (dBin gIx (dVar 6) (dC (.int 0))) dNil)) (dCB gReprR (dCons (dVar 2) dNil)))) (dVar 6)) (dgName 5))
    (dSeq (dAsg (dTup (dCons (dC (.str "edge")) (dCons (dVar 2) (dCons (dC (.bl false)) dNil)))) (dgName 4))
    (dIfS (dTest (dBin gNe (dVar 5) (dLst dNil)))
    (dAsg (dTup (dCons (dC (.str "told")) (dCons (dCall 3 tf__law_is_lefthand (dCons (dBin gIx (dVar 2) (dC (.int 1))) (dCons (dBin gIx (dBin gIx (dVar 5) (dC (.int 0))) (dC (.int 1))) (dCons (dBin gIx (dBin gIx (dVar 5) (dC (.int 0))) (dC (.int 2))) dNil)))) dNil))) (dgName 4))
    dNext)))))
    (dSeq (dOwn (lLst (dCons (dLam 3 T__law_told (dCallX 2 tf_does_fit (dCons (dVar 0) (dCons (dVar 1) dNil)))) dNil)) 7)
    (dSeq (dApp 7 (dLam 3 T__law_told (dCallKX 2 2 [1, 0] tf_does_fit (dCons (dVar 1) (dCons (dVar 0) dNil)))))
    (dSeq (dApp 7 (dLam 3 T__law_told (dCallX 2 tf_is_left (dCons (dVar 0) (dCons (dVar 2) dNil)))))
    (dSeq (dApp 7 (dLam 3 T__law_told (dCallKX 2 2 [1, 0] tf_is_left (dCons (dVar 2) (dCons (dVar 0) dNil)))))
    (dFreeze 7 (dRet (dCall 2 tf__law_same (dCons (dVar 7) (dCons (dLst (dCons (dVar 3) (dCons (dVar 3) (dCons (dVar 4) (dCons (dVar 4) dNil))))) dNil))))))))))
def tf__law_are_two_right : TF := fun _ ds Q => tfOf 8 T__law_are_two_right (fun _ => False) ds Q
theorem ok__law_are_two_right (t : Tx K mg) (tb : TBs K mg base TN) : FnG P w K mg base CX0 12 t.a__law_are_two_right t.d__law_are_two_right ["_law_near", "_law_far", "_law_edge"] (spD K 3 tf__law_are_two_right) := by
  have sc := sc__law_are_two_right
  exact fng_dataC (n := "_law_are_two_right") (N := ["_law_near", "_law_far", "_law_edge", "_law_due", "_law_side", "_law_some", "_law_it", "_law_told_here"]) (T := T__law_are_two_right) t.F__law_are_two_right sc t.E__law_are_two_right fun cdv A outer s H E F hK hF room hcd =>
    (ds_cons (ds_if (dt_not (dt_val (d_call (ok__law_is_tile t) hK (room.mono (by decide)) rfl t.m__law_is_tile t.F__law_is_tile.kp (b__law_is_tile t) (da_cons (d_var (pv 0)) da_nil))))
    (ds_one (ds_par (i := 3) (j := 4) rfl sc.nd rfl rfl (by decide) rfl rfl (da_cons (d_tup (da_cons d_str (da_cons (d_var (pv 0)) (da_cons d_bl da_nil)))) (da_cons (d_tup (da_cons d_str (da_cons (d_var (pv 0)) (da_cons d_bl da_nil)))) da_nil))))
    (ds_cons (ds_set (i := 3) sc.nd rfl (by first | exact Or.inl rfl | exact Or.inr rfl) (d_if (dt_val (d_call (ok__law_is_tile t) hK (room.mono (by decide)) rfl t.m__law_is_tile t.F__law_is_tile.kp (b__law_is_tile t) (da_cons (d_var (pv 1)) da_nil))) (d_tup (da_cons d_str (da_cons (d_call (ok__law_do_fit t) hK (room.mono (by decide)) rfl t.m__law_do_fit t.F__law_do_fit.kp (b__law_do_fit t) (da_cons (d_var (pv 0)) (da_cons (d_var (pv 1)) da_nil))) da_nil))) (d_tup (da_cons d_str (da_cons (d_var (pv 1)) (da_cons d_bl da_nil))))))
    (ds_cons (ds_setLcL hK rfl sc.nd (d_call (ok__law_borders t) hK (room.mono (by decide)) rfl t.m__law_borders t.F__law_borders.kp (b__law_borders t) (da_cons (d_var (pv 0)) da_nil)) (blkOk_by (own := [("_law_it", 6)]) (N := ["_law_near", "_law_far", "_law_edge", "_law_due", "_law_side", "_law_some", "_law_it", "_law_told_here"]) (sc := defScope s__law_are_two_right) (by decide +kernel)) rfl (i := 5) rfl rfl (sw_true rfl rfl rfl (by decide +kernel)) (fun _ _ _ _ _ => pg_name (i := 6) sc.nd rfl (Or.inl rfl)) (fun _ _ _ _ _ => (dts_one (dt_eq hK room.r.units (d_reprR hK t.sm room.g (units80 room.r) rfl t.n_repr (da_cons (d_ix hK (d_var (pv 6)) d_int (fun _ _ => rfl)) da_nil)) (d_reprR hK t.sm room.g (units80 room.r) rfl t.n_repr (da_cons (d_var (pv 2)) da_nil))))) (fun _ _ _ _ _ => (d_var (pv 6))))
    (ds_cons (ds_set (i := 4) sc.nd rfl (by first | exact Or.inl rfl | exact Or.inr rfl) (d_tup (da_cons d_str (da_cons (d_var (pv 2)) (da_cons d_bl da_nil)))))
    (ds_one (ds_if (dt_ne hK room.r.units (d_var (pv 5)) (d_lst da_nil))
    (ds_one (ds_set (i := 4) sc.nd rfl (by first | exact Or.inl rfl | exact Or.inr rfl) (d_tup (da_cons d_str (da_cons (d_call (ok__law_is_lefthand t) hK (room.mono (by decide)) rfl t.m__law_is_lefthand t.F__law_is_lefthand.kp (b__law_is_lefthand t) (da_cons (d_ix hK (d_var (pv 2)) d_int (fun _ _ => rfl)) (da_cons (d_ix hK (d_ix hK (d_var (pv 5)) d_int (fun _ _ => rfl)) d_int (fun _ _ => rfl)) (da_cons (d_ix hK (d_ix hK (d_var (pv 5)) d_int (fun _ _ => rfl)) d_int (fun _ _ => rfl)) da_nil)))) da_nil)))))
    ds_nil))))))
    (ds_cons (ds_own (i := 7) sc.nd rfl (by first | exact Or.inl rfl | exact Or.inr rfl) (l_lst (da_cons (d_lam (k := 9) hK (by rfl) t.m__law_told t.F__law_told.kp t.F__law_told (b__law_told t) sc__law_told rfl (.inl rfl) (fun cdv s H F2 Th hK hF room hole => told__law_told t cdv _ _ s H F2 Th hK hF hole) (tb "_law_are_two_right" (by decide)) hcd t.T__law_are_two_right.mem t.T__law_are_two_right.uni (room.mono (by decide)) (LamX.lamS_by (sc := defScope s__law_are_two_right) (by decide +kernel)) (by rfl) (fun _ _ _ _ _ => rfl)
      (fun A outer s H E f c' F' hK wo' room => (d_callX (ok_does_fit t) takes_lam wo' hK (room.mono (by decide)) rfl t.m_does_fit t.F_does_fit.kp (b_does_fit t) (da_cons (d_var (pv 0)) (da_cons (d_var (pv 1)) da_nil))))) da_nil)))
    (ds_cons (ds_app hK (pv 7) (d_lam (k := 9) hK (by rfl) t.m__law_told t.F__law_told.kp t.F__law_told (b__law_told t) sc__law_told rfl (.inl rfl) (fun cdv s H F2 Th hK hF room hole => told__law_told t cdv _ _ s H F2 Th hK hF hole) (tb "_law_are_two_right" (by decide)) hcd t.T__law_are_two_right.mem t.T__law_are_two_right.uni (room.mono (by decide)) (LamX.lamS_by (sc := defScope s__law_are_two_right) (by decide +kernel)) (by rfl) (fun _ _ _ _ _ => rfl)
      (fun A outer s H E f c' F' hK wo' room => (d_callKX (ok_does_fit t) takes_lam wo' hK (room.mono (by decide)) rfl t.m_does_fit t.F_does_fit.kp (kb_does_fit_other_one t) (dk_cons (d_var (pv 1)) (dk_cons (d_var (pv 0)) dk_nil))))))
    (ds_cons (ds_app hK (pv 7) (d_lam (k := 9) hK (by rfl) t.m__law_told t.F__law_told.kp t.F__law_told (b__law_told t) sc__law_told rfl (.inl rfl) (fun cdv s H F2 Th hK hF room hole => told__law_told t cdv _ _ s H F2 Th hK hF hole) (tb "_law_are_two_right" (by decide)) hcd t.T__law_are_two_right.mem t.T__law_are_two_right.uni (room.mono (by decide)) (LamX.lamS_by (sc := defScope s__law_are_two_right) (by decide +kernel)) (by rfl) (fun _ _ _ _ _ => rfl)
      (fun A outer s H E f c' F' hK wo' room => (d_callX (ok_is_left t) takes_lam wo' hK (room.mono (by decide)) rfl t.m_is_left t.F_is_left.kp (b_is_left t) (da_cons (d_var (pv 0)) (da_cons (d_var (pv 2)) da_nil))))))
    (ds_cons (ds_app hK (pv 7) (d_lam (k := 9) hK (by rfl) t.m__law_told t.F__law_told.kp t.F__law_told (b__law_told t) sc__law_told rfl (.inl rfl) (fun cdv s H F2 Th hK hF room hole => told__law_told t cdv _ _ s H F2 Th hK hF hole) (tb "_law_are_two_right" (by decide)) hcd t.T__law_are_two_right.mem t.T__law_are_two_right.uni (room.mono (by decide)) (LamX.lamS_by (sc := defScope s__law_are_two_right) (by decide +kernel)) (by rfl) (fun _ _ _ _ _ => rfl)
      (fun A outer s H E f c' F' hK wo' room => (d_callKX (ok_is_left t) takes_lam wo' hK (room.mono (by decide)) rfl t.m_is_left t.F_is_left.kp (kb_is_left_edge_tile t) (dk_cons (d_var (pv 2)) (dk_cons (d_var (pv 0)) dk_nil))))))
    (dss_freeze (i := 7) (ds_one (ds_ret (d_call (ok__law_same t) hK (room.mono (by decide)) rfl t.m__law_same t.F__law_same.kp (b__law_same t) (da_cons (d_var (pv 7)) (da_cons (d_lst (da_cons (d_var (pv 3)) (da_cons (d_var (pv 3)) (da_cons (d_var (pv 4)) (da_cons (d_var (pv 4)) da_nil))))) da_nil)))))))))))
def T__law_are_neighbours_right : TDS := (dSeq (dFor (dCall 1 tf__law_borders (dCons (dVar 0) dNil)) (dgTup 3 (dgCons (dgName 1) (dgCons (dgName 2) (dgCons (dgName 3) dgNil))))
    (dSeq (dIfS (dtNot (dTest (dCall 2 tf__law_same (dCons (dCallX 2 tf_is_left (dCons (dVar 0) (dCons (dVar 1) dNil))) (dCons (dCall 3 tf__law_is_lefthand (dCons (dBin gIx (dVar 1) (dC (.int 1))) (dCons (dVar 2) (dCons (dVar 3) dNil)))) dNil)))))
    (dRet (dC (.bl false)))
    dNext)
    (dFor (dLcR (dCons (dC (.int 5)) dNil) 4 (dTest (dBin gNe (dVar 4) (dBin gIx (dVar 1) (dC (.int 1))))) (dVar 4)) (dgName 4)
    (dForT (dTup (dCons (dC (.int 0)) (dCons (dUn gNeg (dC (.int 1))) dNil))) (dgName 5)
    (dSeq (dAsg (dCall 3 tf__law_step (dCons (dBin gIx (dVar 1) (dC (.int 0))) (dCons (dVar 4) (dCons (dVar 5) dNil)))) (dgName 6))
    (dIfS (dTest (dBin (gIn false) (dCB gSum (dCons (dVar 6) dNil)) (dTup (dCons (dC (.int 1)) (dCons (dC (.int 2)) dNil)))))
    (dSeq (dAsg (dTup (dCons (dVar 6) (dCons (dCB gMin2 (dCons (dBin gIx (dVar 1) (dC (.int 1))) (dCons (dVar 4) dNil))) (dCons (dCB gMax2 (dCons (dBin gIx (dVar 1) (dC (.int 1))) (dCons (dVar 4) dNil))) dNil)))) (dgName 7))
    (dSeq (dAsg (dAnd (dBin gNe (dVar 7) (dVar 0)) (dCall 2 tf__law_do_fit (dCons (dVar 0) (dCons (dVar 7) dNil)))) (dgName 8))
    (dIfS (dtNot (dTest (dCall 2 tf__law_same (dCons (dTup (dCons (dCallX 2 tf_does_fit (dCons (dVar 0) (dCons (dVar 7) dNil))) (dCons (dCallX 2 tf_does_fit (dCons (dVar 7) (dCons (dVar 0) dNil))) dNil))) (dCons (dTup (dCons (dVar 8) (dCons (dVar 8) dNil))) dNil)))))
    (dRet (dC (.bl false)))
    dNext)))
    dNext))))))
    (dRet (dC (.bl true))))
def tf__law_are_neighbours_right : TF := fun _ ds Q => tfOf 9 T__law_are_neighbours_right (fun _ => False) ds Q
theorem ok__law_are_neighbours_right (t : Tx K mg) : FnG P w K mg base CX0 10 t.a__law_are_neighbours_right t.d__law_are_neighbours_right ["_law_rhomb"] (spD K 1 tf__law_are_neighbours_right) := by
  have sc := sc__law_are_neighbours_right
  exact fng_data (N := ["_law_rhomb", "_law_edge", "_law_beside", "_law_is_up", "_law_s", "_law_many", "_law_foot", "_law_far", "_law_due"]) (T := T__law_are_neighbours_right) t.F__law_are_neighbours_right sc fun cdv A outer s H E F hK hF room =>
    (ds_cons (ds_for hK PassesOwn.never rfl (d_call (ok__law_borders t) hK (room.mono (by decide)) rfl t.m__law_borders t.F__law_borders.kp (b__law_borders t) (da_cons (d_var (pv 0)) da_nil)) (dg_tup hK rfl (dgs_cons (dg_name (pg_name (i := 1) sc.nd rfl (by first | exact Or.inl rfl | exact Or.inr rfl))) (dgs_cons (dg_name (pg_name (i := 2) sc.nd rfl (by first | exact Or.inl rfl | exact Or.inr rfl))) (dgs_cons (dg_name (pg_name (i := 3) sc.nd rfl (by first | exact Or.inl rfl | exact Or.inr rfl))) dgs_nil))))
    (ds_cons (ds_if (dt_not (dt_val (d_call (ok__law_same t) hK (room.mono (by decide)) rfl t.m__law_same t.F__law_same.kp (b__law_same t) (da_cons (d_callX (ok_is_left t) takes_none5 (wok_none hF) hK (room.mono (by decide)) rfl t.m_is_left t.F_is_left.kp (b_is_left t) (da_cons (d_var (pv 0)) (da_cons (d_var (pv 1)) da_nil))) (da_cons (d_call (ok__law_is_lefthand t) hK (room.mono (by decide)) rfl t.m__law_is_lefthand t.F__law_is_lefthand.kp (b__law_is_lefthand t) (da_cons (d_ix hK (d_var (pv 1)) d_int (fun _ _ => rfl)) (da_cons (d_var (pv 2)) (da_cons (d_var (pv 3)) da_nil)))) da_nil)))))
    (ds_one (ds_ret d_bl))
    ds_nil)
    (ds_one (ds_for hK PassesOwn.never rfl (d_lcR hK rfl sc.nd rfl t.n_range (da_cons d_int da_nil) (blkOk_by (own := [("_law_s", 4)]) (N := ["_law_rhomb", "_law_edge", "_law_beside", "_law_is_up", "_law_s", "_law_many", "_law_foot", "_law_far", "_law_due"]) (sc := defScope s__law_are_neighbours_right) (by decide +kernel)) rfl (fun _ _ _ _ _ => pg_name (i := 4) sc.nd rfl (Or.inl rfl)) (fun _ _ _ _ _ => (dts_one (dt_ne hK room.r.units (d_var (pv 4)) (d_ix hK (d_var (pv 1)) d_int (fun _ _ => rfl))))) (fun _ _ _ _ _ => (d_var (pv 4)))) (dg_name (pg_name (i := 4) sc.nd rfl (by first | exact Or.inl rfl | exact Or.inr rfl)))
    (ds_one (ds_forT hK PassesOwn.never rfl (d_tup (da_cons d_int (da_cons (d_neg d_int) da_nil))) (dg_name (pg_name (i := 5) sc.nd rfl (by first | exact Or.inl rfl | exact Or.inr rfl)))
    (ds_cons (ds_set (i := 6) sc.nd rfl (by first | exact Or.inl rfl | exact Or.inr rfl) (d_call (ok__law_step t) hK (room.mono (by decide)) rfl t.m__law_step t.F__law_step.kp (b__law_step t) (da_cons (d_ix hK (d_var (pv 1)) d_int (fun _ _ => rfl)) (da_cons (d_var (pv 4)) (da_cons (d_var (pv 5)) da_nil)))))
    (ds_one (ds_if (dt_in hK (d_callB (hK ▸ cd_sum) (cr_sumA rfl) rfl t.n_sum (by decide +kernel) (da_cons (d_var (pv 6)) da_nil)) (d_tup (da_cons d_int (da_cons d_int da_nil))))
    (ds_cons (ds_set (i := 7) sc.nd rfl (by first | exact Or.inl rfl | exact Or.inr rfl) (d_tup (da_cons (d_var (pv 6)) (da_cons (d_callB cd_min2 (call_min2 rfl) rfl t.n_min (by decide +kernel) (da_cons (d_ix hK (d_var (pv 1)) d_int (fun _ _ => rfl)) (da_cons (d_var (pv 4)) da_nil))) (da_cons (d_callB cd_max2 (call_max2 rfl) rfl t.n_max (by decide +kernel) (da_cons (d_ix hK (d_var (pv 1)) d_int (fun _ _ => rfl)) (da_cons (d_var (pv 4)) da_nil))) da_nil)))))
    (ds_cons (ds_set (i := 8) sc.nd rfl (by first | exact Or.inl rfl | exact Or.inr rfl) (d_and (d_ne hK room.r.units (d_var (pv 7)) (d_var (pv 0))) (d_one (d_call (ok__law_do_fit t) hK (room.mono (by decide)) rfl t.m__law_do_fit t.F__law_do_fit.kp (b__law_do_fit t) (da_cons (d_var (pv 0)) (da_cons (d_var (pv 7)) da_nil))))))
    (ds_one (ds_if (dt_not (dt_val (d_call (ok__law_same t) hK (room.mono (by decide)) rfl t.m__law_same t.F__law_same.kp (b__law_same t) (da_cons (d_tup (da_cons (d_callX (ok_does_fit t) takes_none5 (wok_none hF) hK (room.mono (by decide)) rfl t.m_does_fit t.F_does_fit.kp (b_does_fit t) (da_cons (d_var (pv 0)) (da_cons (d_var (pv 7)) da_nil))) (da_cons (d_callX (ok_does_fit t) takes_none5 (wok_none hF) hK (room.mono (by decide)) rfl t.m_does_fit t.F_does_fit.kp (b_does_fit t) (da_cons (d_var (pv 7)) (da_cons (d_var (pv 0)) da_nil))) da_nil))) (da_cons (d_tup (da_cons (d_var (pv 8)) (da_cons (d_var (pv 8)) da_nil))) da_nil)))))
    (ds_one (ds_ret d_bl))
    ds_nil))))
    ds_nil)))))))))
    (ds_one (ds_ret d_bl)))
def T_law : TDS := (dSeq (dForR (dCons (dC (.int 2)) dNil) (dgName 2)
    (dIfS (dtNot (dTest (dCall 1 tf__law_are_neighbours_right (dCons (dCall 1 tf__law_drawn (dCons (dVar 1) dNil)) dNil))))
    (dRet (dC (.bl false)))
    dNext))
    (dSeq (dForR (dCons (dC (.int 5)) dNil) (dgName 2)
    (dSeq (dPar 3 4 (dCons (dCall 1 tf__law_drawn (dCons (dVar 1) dNil)) (dCons (dCall 1 tf__law_drawn (dCons (dVar 1) dNil)) dNil)))
    (dSeq (dAsg (dBin gIx (dCall 2 tf__law_pick (dCons (dVar 1) (dCons (dCall 1 tf__law_borders (dCons (dVar 3) dNil)) dNil))) (dC (.int 0))) (dgName 5))
    (dSeq (dIfS (dTest (dBin gEq (dCall 2 tf_draw (dCons (dVar 1) (dCons (dC (.int 4)) dNil))) (dC (.int 0))))
    (dAsg (dBin gIx (dCall 2 tf__law_pick (dCons (dVar 1) (dCons (dCall 1 tf__law_borders (dCons (dVar 4) dNil)) dNil))) (dC (.int 0))) (dgName 5))
    dNext)
    (dSeq (dPar3 3 4 5 (dCons (dCall 2 tf__law_maybe (dCons (dVar 1) (dCons (dVar 3) dNil))) (dCons (dCall 2 tf__law_maybe (dCons (dVar 1) (dCons (dVar 4) dNil))) (dCons (dCall 2 tf__law_maybe (dCons (dVar 1) (dCons (dVar 5) dNil))) dNil))))
    (dSeq (dAsg (dCB gReprR (dCons (dTup (dCons (dVar 3) (dCons (dVar 4) (dCons (dVar 5) dNil)))) dNil)) (dgName 6))
    (dSeq (dIfS (dtOr (dtNot (dTest (dCall 1 tf__law_is_alone_right (dCons (dVar 3) dNil)))) (dtNot (dTest (dCall 3 tf__law_are_two_right (dCons (dVar 3) (dCons (dVar 4) (dCons (dVar 5) dNil)))))))
    (dRet (dC (.bl false)))
    dNext)
    (dIfS (dtNot (dTest (dCall 2 tf__law_same (dCons (dCB gReprR (dCons (dTup (dCons (dVar 3) (dCons (dVar 4) (dCons (dVar 5) dNil)))) dNil)) (dCons (dVar 6) dNil)))))
    (dRet (dC (.bl false)))
    dNext))))))))
    (dRet (dC (.bl true)))))
theorem ok_law (t : Tx K mg) (tb : TBs K mg base TN) : FnG P w K mg base CX0 13 t.a_law t.d_law ["_law_script"] (spLaw K 5 T_law) := by
  have sc := sc_law
  refine fng_of (N := ["_law_script", "_law_deck_here", "_law_turn", "_law_near", "_law_far", "_law_edge", "_law_text"]) t.F_law sc ?_ ?_
  · rintro vs H Q E ⟨a, ns, rfl, _⟩
    rfl
  rintro cdv A outer s H vs Q E room ⟨a, ns, rfl, hS, hlen, hTb, hT, hQ⟩
  have rest : ∀ F : FP, (F.K = K ∧ F.ex = fun _ _ => False) → PSs (cxOf CX0 P w K mg base ["_law_script", "_law_deck_here", "_law_turn", "_law_near", "_law_far", "_law_edge", "_law_text"] "law" (defScope s_law) t.a_law cdv A outer s H E).nox (defBody s_law).tail (sD F T_law) := fun F ⟨hK, hF⟩ =>
    (ds_cons (ds_forR1 PassesOwn.never rfl rfl t.n_range (da_cons d_int da_nil) (dg_name (pg_name (i := 2) sc.nd rfl (by first | exact Or.inl rfl | exact Or.inr rfl)))
    (ds_one (ds_if (dt_not (dt_val (d_call (ok__law_are_neighbours_right t) hK (room.mono (by decide)) rfl t.m__law_are_neighbours_right t.F__law_are_neighbours_right.kp (b__law_are_neighbours_right t) (da_cons (d_call (ok__law_drawn t) hK (room.mono (by decide)) rfl t.m__law_drawn t.F__law_drawn.kp (b__law_drawn t) (da_cons (d_var (pv 1)) da_nil)) da_nil))))
    (ds_one (ds_ret d_bl))
    ds_nil)))
    (ds_cons (ds_forR1 PassesOwn.never rfl rfl t.n_range (da_cons d_int da_nil) (dg_name (pg_name (i := 2) sc.nd rfl (by first | exact Or.inl rfl | exact Or.inr rfl)))
    (ds_cons (ds_par (i := 3) (j := 4) rfl sc.nd rfl rfl (by decide) rfl rfl (da_cons (d_call (ok__law_drawn t) hK (room.mono (by decide)) rfl t.m__law_drawn t.F__law_drawn.kp (b__law_drawn t) (da_cons (d_var (pv 1)) da_nil)) (da_cons (d_call (ok__law_drawn t) hK (room.mono (by decide)) rfl t.m__law_drawn t.F__law_drawn.kp (b__law_drawn t) (da_cons (d_var (pv 1)) da_nil)) da_nil)))
    (ds_cons (ds_set (i := 5) sc.nd rfl (by first | exact Or.inl rfl | exact Or.inr rfl) (d_ix hK (d_call (ok__law_pick t) hK (room.mono (by decide)) rfl t.m__law_pick t.F__law_pick.kp (b__law_pick t) (da_cons (d_var (pv 1)) (da_cons (d_call (ok__law_borders t) hK (room.mono (by decide)) rfl t.m__law_borders t.F__law_borders.kp (b__law_borders t) (da_cons (d_var (pv 3)) da_nil)) da_nil))) d_int (fun _ _ => rfl)))
    (ds_cons (ds_if (dt_eq hK room.r.units (d_call (ok__law_draw t) hK (room.mono (by decide)) rfl t.m__law_draw t.F__law_draw.kp (b__law_draw t) (da_cons (d_var (pv 1)) (da_cons d_int da_nil))) d_int)
    (ds_one (ds_set (i := 5) sc.nd rfl (by first | exact Or.inl rfl | exact Or.inr rfl) (d_ix hK (d_call (ok__law_pick t) hK (room.mono (by decide)) rfl t.m__law_pick t.F__law_pick.kp (b__law_pick t) (da_cons (d_var (pv 1)) (da_cons (d_call (ok__law_borders t) hK (room.mono (by decide)) rfl t.m__law_borders t.F__law_borders.kp (b__law_borders t) (da_cons (d_var (pv 4)) da_nil)) da_nil))) d_int (fun _ _ => rfl))))
    ds_nil)
    (ds_cons (ds_par3 (i := 3) (j := 4) (l := 5) rfl sc.nd rfl rfl rfl (by decide) (by decide) (by decide) rfl rfl rfl (da_cons (d_call (ok__law_maybe t) hK (room.mono (by decide)) rfl t.m__law_maybe t.F__law_maybe.kp (b__law_maybe t) (da_cons (d_var (pv 1)) (da_cons (d_var (pv 3)) da_nil))) (da_cons (d_call (ok__law_maybe t) hK (room.mono (by decide)) rfl t.m__law_maybe t.F__law_maybe.kp (b__law_maybe t) (da_cons (d_var (pv 1)) (da_cons (d_var (pv 4)) da_nil))) (da_cons (d_call (ok__law_maybe t) hK (room.mono (by decide)) rfl t.m__law_maybe t.F__law_maybe.kp (b__law_maybe t) (da_cons (d_var (pv 1)) (da_cons (d_var (pv 5)) da_nil))) da_nil))))
    (ds_cons (ds_set (i := 6) sc.nd rfl (by first | exact Or.inl rfl | exact Or.inr rfl) (d_reprR hK t.sm room.g (units80 room.r) rfl t.n_repr (da_cons (d_tup (da_cons (d_var (pv 3)) (da_cons (d_var (pv 4)) (da_cons (d_var (pv 5)) da_nil)))) da_nil)))
    (ds_cons (ds_if (PW.pt (dw_or (dt_not (dt_val (d_call (ok__law_is_alone_right t tb) hK (room.mono (by decide)) rfl t.m__law_is_alone_right t.F__law_is_alone_right.kp (b__law_is_alone_right t) (da_cons (d_var (pv 3)) da_nil)))) (dw_or1 (dt_not (dt_val (d_call (ok__law_are_two_right t tb) hK (room.mono (by decide)) rfl t.m__law_are_two_right t.F__law_are_two_right.kp (b__law_are_two_right t) (da_cons (d_var (pv 3)) (da_cons (d_var (pv 4)) (da_cons (d_var (pv 5)) da_nil)))))))))
    (ds_one (ds_ret d_bl))
    ds_nil)
    (ds_one (ds_if (dt_not (dt_val (d_call (ok__law_same t) hK (room.mono (by decide)) rfl t.m__law_same t.F__law_same.kp (b__law_same t) (da_cons (d_reprR hK t.sm room.g (units80 room.r) rfl t.n_repr (da_cons (d_tup (da_cons (d_var (pv 3)) (da_cons (d_var (pv 4)) (da_cons (d_var (pv 5)) da_nil)))) da_nil)) (da_cons (d_var (pv 6)) da_nil)))))
    (ds_one (ds_ret d_bl))
    ds_nil)))))))))
    (ds_one (ds_ret d_bl))))
  refine ⟨_, PSs.nox (pss_cons (ps_set (i := 1) sc.nd rfl (by first | exact Or.inl rfl | exact Or.inr rfl) (pe_callG (ok__law_deck t) (room.mono (by decide)) rfl t.m__law_deck t.F__law_deck.kp (b__law_deck t) .nil pass0 (pa_cons (pv 0) pa_nil))) (PSs.exF rest)), ?_⟩
  refine ⟨_, rfl, a, ns, rfl, hS, hlen, fun H' d l m xs hs h1 h2 h3 h4 h5 => ?_⟩
  exact law_rest h3 h4 h5 (LamX.Tabs.ext hTb hs) hT hQ
end
end K16
set_option Elab.async false
set_option linter.all false
set_option maxHeartbeats 1000000
set_option maxRecDepth 100000
namespace K16
open PySem PySem.Spec L2 DL
variable {ξ : XT} {Q : D → Prop}
/-! ### rows, tiles, edges -/
structure R5 where
  a : Int
  b : Int
  c : Int
  d : Int
  e : Int
deriving DecidableEq
namespace R5
def D (k : R5) : DL.D := .tup [.int k.a, .int k.b, .int k.c, .int k.d, .int k.e]
def sum (k : R5) : Int := [k.a, k.b, k.c, k.d, k.e].sum
def st (x r j m : Int) : Int := if r = j then x + m else x
def up (k : R5) (j m : Int) : R5 := ⟨st k.a 0 j m, st k.b 1 j m, st k.c 2 j m, st k.d 3 j m, st k.e 4 j m⟩
def add (k l : R5) : R5 := ⟨k.a + l.a, k.b + l.b, k.c + l.c, k.d + l.d, k.e + l.e⟩
end R5
abbrev Ed := R5 × Int
def eD (x : Ed) : D := .tup [x.1.D, .int x.2]
structure Tl where
  k : R5
  r : Int
  s : Int
deriving DecidableEq
namespace Tl
def D (t : Tl) : DL.D := .tup [t.k.D, .int t.r, .int t.s]
/-- its edges -/
def E (t : Tl) : Nat → Ed
  | 0 => (t.k, t.r)
  | 1 => (t.k, t.s)
  | 2 => (t.k.up t.s 1, t.r)
  | _ => (t.k.up t.r 1, t.s)
structure Ok (t : Tl) : Prop where
  l : t.k.sum = 1 ∨ t.k.sum = 2
  r0 : 0 ≤ t.r
  rs : t.r < t.s
  s4 : t.s ≤ 4
end Tl
/-! ### what is told of any value -/
def isI : D → Bool
  | .int _ => true
  | _ => false
def vi : D → Int
  | .int i => i
  | _ => 0
def sm : D → Int
  | .tup [.int a, .int b, .int c, .int d, .int e] => [a, b, c, d, e].sum
  | _ => 0
def isN (n : Int) : D → Bool
  | .tup ds => decide ((ds.length : Int) = n) && ds.all isI
  | _ => false
def isC (d : D) : Bool := isN 5 d && (decide (1 ≤ sm d) && decide (sm d ≤ 4))
def isJ : D → Bool
  | .int j => decide (0 ≤ j) && decide (j ≤ 4)
  | _ => false
def isT : D → Bool
  | .tup [a, b, c] => isC a && (!decide (2 < sm a) && (isJ b && (isJ c && decide (vi b < vi c))))
  | _ => false
def isE : D → Bool
  | .tup [a, b] => isC a && isJ b
  | _ => false
theorem szN (n : Nat) (h : n ≤ 1000 := by decide) : n ≤ sizeLine := sz h
theorem e_ipi {d : D} (h : plainR d = true) (q : Q (.bl (isI d))) : tf_is_plain_integer ξ [d] Q := by
  cases d with
  | int i => exact ⟨rfl, rfl, q⟩
  | bl b => exact ⟨rfl, rfl, q⟩
  | deck => cases h
  | ty n => cases h
  | _ => exact ⟨rfl, q⟩
theorem andq {p r : Bool} {A : Prop} (q : Q (.bl (p && r))) (k : Q (.bl r) → A) : if p = true then A else Q (.bl false) := by
  cases p
  · exact q
  · exact k q
theorem ch {x y z : Int} {ξ : XW} {env : SE} (q : Q (.bl (decide (x ≤ y) && decide (y ≤ z)))) : dChain gLe gLe (dC (.int x)) (dC (.int y)) (dC (.int z)) ξ env Q := by
  show (match (D.bl (decide (x ≤ y)) : D) with | .bl true => Q (.bl (decide (y ≤ z))) | .bl false => Q (.bl false) | _ => False)
  by_cases h : x ≤ y
  · rw [decide_eq_true h] at q ⊢
    exact q
  · rw [decide_eq_false h] at q ⊢
    exact q
theorem bls_map : ∀ bs : List Bool, blsOf (bs.map D.bl) = some bs
  | [] => rfl
  | b :: bs => by
    show (blsOf (bs.map D.bl)).map (b :: ·) = _
    rw [bls_map bs]; rfl
theorem lc_ipi {x y : Slot} : ∀ {ds : List D} {Q' : List D → Prop}, plainRs ds = true → Q' ((ds.map isI).map D.bl) → lcD (dgName 2) dYes (dCall 1 tf_is_plain_integer (dCons (dVar 2) dNil)) [x, y, .un] ds Q'
  | [], _, _, q => q
  | d :: ds, Q', h, q => by
    have h : (plainR d && plainRs ds) = true := h
    obtain ⟨h1, h2⟩ := Bool.and_eq_true_iff.mp h
    exact ⟨rfl, e_ipi h1 (lc_ipi h2 q)⟩
def isTn (n : Int) : D → Bool
  | .tup ds => decide ((ds.length : Int) = n)
  | _ => false
theorem e_ito {d : D} {n : Int} (h : plainR d = true) (q : Q (.bl (isTn n d))) : tf_is_tuple_of ξ [d, .int n] Q := by
  cases d with
  | tup ds => exact ⟨rfl, q⟩
  | deck => cases h
  | ty n => cases h
  | kt n => cases h
  | _ => exact ⟨rfl, q⟩
theorem e_api {d : D} {n : Int} (h : plainR d = true) (l : ∀ ds, seqOf d = some ds → ds.length ≤ 1000) (q : Q (.bl (isN n d))) : tf_are_plain_integers ξ [d, .int n] Q := by
  cases d with
  | tup ds =>
    refine ⟨rfl, rfl, ?_⟩
    show (if decide ((ds.length : Int) = n) = true then dCB gAll (dCons (dLcV 0 2 dYes (dCall 1 tf_is_plain_integer (dCons (dVar 2) dNil))) dNil) (fun _ _ => False) [.d (.tup ds), .d (.int n), .un] Q else Q (.bl false))
    refine andq (r := ds.all isI) q fun q => ?_
    refine ⟨sz (l ds rfl), ?_⟩
    refine lc_ipi (Q' := fun ys => gAll [.lst ys] Q) h ?_
    show (match blsOf ((ds.map isI).map D.bl) with | some bs => Q (.bl (bs.all id)) | none => False)
    rw [bls_map]
    show Q (.bl ((ds.map isI).all id))
    rw [List.all_map]
    exact q
  | deck => cases h
  | ty n => cases h
  | kt n => cases h
  | _ => exact ⟨rfl, rfl, q⟩
theorem isI_of {d : D} (h : isI d = true) : ∃ i, d = .int i := by
  cases d <;> first | exact ⟨_, rfl⟩ | cases h
theorem all5 {ds : List D} (h1 : ds.length = 5) (h2 : ds.all isI = true) : ∃ k : R5, ds = [.int k.a, .int k.b, .int k.c, .int k.d, .int k.e] := by
  match ds, h1, h2 with
  | [x, y, z, u, v], _, h2 =>
    simp only [List.all_cons, List.all_nil, Bool.and_true, Bool.and_eq_true] at h2
    obtain ⟨h3, h4, h5, h6, h7⟩ := h2
    obtain ⟨a, rfl⟩ := isI_of h3
    obtain ⟨b, rfl⟩ := isI_of h4
    obtain ⟨c, rfl⟩ := isI_of h5
    obtain ⟨d, rfl⟩ := isI_of h6
    obtain ⟨e, rfl⟩ := isI_of h7
    exact ⟨⟨a, b, c, d, e⟩, rfl⟩
theorem isN5 {d : D} (h : isN 5 d = true) : ∃ k : R5, d = k.D := by
  cases d with
  | tup ds =>
    obtain ⟨h1, h2⟩ := Bool.and_eq_true_iff.mp (show (decide ((ds.length : Int) = 5) && ds.all isI) = true from h)
    obtain ⟨k, rfl⟩ := all5 (by have := of_decide_eq_true h1; omega) h2
    exact ⟨k, rfl⟩
  | _ => cases h
theorem sm_D {k : R5} : sm k.D = k.sum := rfl
theorem isN_D {k : R5} : isN 5 k.D = true := rfl
theorem isC_D {k : R5} : isC k.D = (decide (1 ≤ k.sum) && decide (k.sum ≤ 4)) := rfl
theorem isC_of {d : D} (h : isC d = true) : ∃ k : R5, d = k.D ∧ 1 ≤ k.sum ∧ k.sum ≤ 4 := by
  obtain ⟨h1, h2⟩ := Bool.and_eq_true_iff.mp h
  obtain ⟨k, rfl⟩ := isN5 h1
  obtain ⟨h3, h4⟩ := Bool.and_eq_true_iff.mp h2
  exact ⟨k, rfl, of_decide_eq_true h3, of_decide_eq_true h4⟩
theorem isJ_of {d : D} (h : isJ d = true) : ∃ j, d = .int j ∧ 0 ≤ j ∧ j ≤ 4 := by
  cases d <;> first | cases h; done | skip
  obtain ⟨h1, h2⟩ := Bool.and_eq_true_iff.mp h
  exact ⟨_, rfl, of_decide_eq_true h1, of_decide_eq_true h2⟩
theorem isJ_j {j : Int} (h0 : 0 ≤ j) (h1 : j ≤ 4) : isJ (.int j) = true := by
  show (decide (0 ≤ j) && decide (j ≤ 4)) = true
  rw [decide_eq_true h0, decide_eq_true h1]; rfl
theorem isT_of {d : D} (h : isT d = true) : ∃ t : Tl, d = t.D ∧ t.Ok := by
  unfold isT at h
  split at h
  · simp only [Bool.and_eq_true] at h
    obtain ⟨h1, h2, h3, h4, h5⟩ := h
    obtain ⟨k, rfl, k1, k4⟩ := isC_of h1
    obtain ⟨r, rfl, r0, r4⟩ := isJ_of h3
    obtain ⟨s, rfl, s0, s4⟩ := isJ_of h4
    have h2 : (!decide (2 < k.sum)) = true := h2
    have h5 := of_decide_eq_true h5
    have h2 : ¬ 2 < k.sum := by simpa using h2
    exact ⟨⟨k, r, s⟩, rfl, ⟨by show k.sum = 1 ∨ k.sum = 2; omega, r0, h5, s4⟩⟩
  · cases h
theorem Tl.Ok.isT {t : Tl} (h : t.Ok) : isT t.D = true := by
  show (isC t.k.D && (!decide (2 < sm t.k.D) && (isJ (.int t.r) && (isJ (.int t.s) && decide (t.r < t.s))))) = true
  have := h.l
  have := h.r0
  have := h.rs
  have := h.s4
  rw [isC_D, sm_D, isJ_j (by omega) (by omega), isJ_j (by omega) (by omega), decide_eq_true (by omega : 1 ≤ t.k.sum), decide_eq_true (by omega : t.k.sum ≤ 4), decide_eq_false (by omega : ¬ 2 < t.k.sum), decide_eq_true h.rs]
  rfl
theorem isE_of {d : D} (h : isE d = true) : ∃ x : Ed, d = eD x ∧ 1 ≤ x.1.sum ∧ x.1.sum ≤ 4 ∧ 0 ≤ x.2 ∧ x.2 ≤ 4 := by
  unfold isE at h
  split at h
  · obtain ⟨h1, h2⟩ := Bool.and_eq_true_iff.mp h
    obtain ⟨k, rfl, k1, k4⟩ := isC_of h1
    obtain ⟨r, rfl, r0, r4⟩ := isJ_of h2
    exact ⟨(k, r), rfl, k1, k4, r0, r4⟩
  · cases h
/-- plain parts -/
structure Pl (d : D) : Prop where
  pl : plainR d = true
  le : ∀ ds, seqOf d = some ds → ds.length ≤ 1000
section
variable {d : D}
theorem e_isR (g : Pl d) (q : Q (.bl (isN 5 d))) : tf_is_row ξ [d] Q := ⟨rfl, e_api g.pl g.le q⟩
theorem e_isC (g : Pl d) (q : Q (.bl (isC d))) : tf_is_corner_row ξ [d] Q := by
  refine ⟨rfl, e_isR g ?_⟩
  cases h : isN 5 d with
  | false =>
    have e : isC d = false := by unfold isC; rw [h]; rfl
    rw [e] at q
    exact q
  | true =>
    obtain ⟨k, rfl⟩ := isN5 h
    exact (show dChain gLe gLe (dC (.int 1)) (dC (.int k.sum)) (dC (.int 4)) (fun _ _ => False) [] Q from ch q)
theorem e_isJ (g : plainR d = true) (q : Q (.bl (isJ d))) : tf_is_direction ξ [d] Q := by
  refine ⟨rfl, e_ipi g ?_⟩
  cases d with
  | int j => exact (show dChain gLe gLe (dC (.int 0)) (dC (.int j)) (dC (.int 4)) (fun _ _ => False) [] Q from ch q)
  | _ => exact q
end
end K16
set_option Elab.async false
set_option linter.all false
set_option maxHeartbeats 1000000
set_option maxRecDepth 100000
namespace K16
open PySem PySem.Spec L2 DL
variable {ξ : XT} {Q : D → Prop}
mutual
def okb : D → Bool
  | .tup ds => decide (ds.length ≤ 1000) && okbs ds
  | .lst ds => decide (ds.length ≤ 1000) && okbs ds
  | .deck => false
  | .ty _ => false
  | .kt _ => false
  | _ => true
def okbs : List D → Bool
  | [] => true
  | d :: ds => okb d && okbs ds
end
theorem okbs_mem : ∀ {ds : List D}, okbs ds = true → ∀ d ∈ ds, okb d = true
  | [], _, _, m => by cases m
  | x :: ds, h, d, m => by
    obtain ⟨h1, h2⟩ := Bool.and_eq_true_iff.mp (show (okb x && okbs ds) = true from h)
    rcases List.mem_cons.mp m with rfl | m
    · exact h1
    · exact okbs_mem h2 d m
theorem okbs_of : ∀ {ds : List D}, (∀ d ∈ ds, okb d = true) → okbs ds = true
  | [], _ => rfl
  | x :: ds, h => by
    show (okb x && okbs ds) = true
    rw [h x List.mem_cons_self, okbs_of fun d m => h d (List.mem_cons_of_mem _ m)]; rfl
structure Pd (d : D) : Prop where
  p : plainR d = true
  o : okb d = true
theorem Pd.pl {d : D} (v : Pd d) : Pl d := ⟨v.p, fun ds e => by
  cases d <;> first | (cases e; done) | skip
  · cases e
    exact of_decide_eq_true (Bool.and_eq_true_iff.mp (show (decide (ds.length ≤ 1000) && okbs ds) = true from v.o)).1
  · cases e
    exact of_decide_eq_true (Bool.and_eq_true_iff.mp (show (decide (ds.length ≤ 1000) && okbs ds) = true from v.o)).1⟩
theorem Pd.part {ds : List D} (v : Pd (.tup ds)) : ∀ d ∈ ds, Pd d := fun d m => ⟨plainRs_mem v.p d m, okbs_mem (Bool.and_eq_true_iff.mp (show (decide (ds.length ≤ 1000) && okbs ds) = true from v.o)).2 d m⟩
theorem Pd.len {ds : List D} (v : Pd (.tup ds)) : ds.length ≤ 1000 := v.pl.le ds rfl
theorem pd_R (k : R5) : Pd k.D := ⟨rfl, rfl⟩
theorem pd_T (t : Tl) : Pd t.D := ⟨rfl, rfl⟩
theorem pd_E (x : Ed) : Pd (eD x) := ⟨rfl, rfl⟩
/-! ### is it a tile? -/
theorem tn3 {d : D} (h : isTn 3 d = true) : ∃ a b c, d = .tup [a, b, c] := by
  cases d <;> first | cases h; done | skip
  rename_i ds
  have h := of_decide_eq_true h
  match ds, h with
  | [a, b, c], _ => exact ⟨a, b, c, rfl⟩
  | [], h => cases h
  | [_], h => cases h
  | [_, _], h => cases h
  | _ :: _ :: _ :: _ :: _, h => simp only [List.length_cons] at h; omega
theorem tn2 {d : D} (h : isTn 2 d = true) : ∃ a b, d = .tup [a, b] := by
  cases d <;> first | cases h; done | skip
  rename_i ds
  have h := of_decide_eq_true h
  match ds, h with
  | [a, b], _ => exact ⟨a, b, rfl⟩
  | [], h => cases h
  | [_], h => cases h
  | _ :: _ :: _ :: _, h => simp only [List.length_cons] at h; omega
theorem isT_n {d : D} (h : isTn 3 d = false) : isT d = false := by
  unfold isT
  split
  · rename_i a b c
    exact absurd (show isTn 3 (.tup [a, b, c]) = true from rfl) (by rw [h]; decide)
  · rfl
theorem isE_n {d : D} (h : isTn 2 d = false) : isE d = false := by
  unfold isE
  split
  · rename_i a b
    exact absurd (show isTn 2 (.tup [a, b]) = true from rfl) (by rw [h]; decide)
  · rfl
theorem e_isT {x : D} (v : Pd x) (q : Q (.bl (isT x))) : tf_is_tile_row ξ [x] Q := by
  refine ⟨rfl, e_ito v.p ?_⟩
  cases hl : isTn 3 x with
  | false =>
    rw [isT_n hl] at q
    exact q
  | true =>
    obtain ⟨a, b, c, rfl⟩ := tn3 hl
    have va := v.part a (by simp)
    have vb := v.part b (by simp)
    have vc := v.part c (by simp)
    have q : Q (.bl (isC a && (!decide (2 < sm a) && (isJ b && (isJ c && decide (vi b < vi c)))))) := q
    refine ⟨rfl, e_isC va.pl ?_⟩
    cases hc : isC a with
    | false =>
      rw [hc] at q
      exact q
    | true =>
      rw [hc] at q
      obtain ⟨k, rfl, _, _⟩ := isC_of hc
      show (if decide (2 < k.sum) = true then _ else _)
      have q : Q (.bl (!decide (2 < k.sum) && (isJ b && (isJ c && decide (vi b < vi c))))) := q
      cases h2 : decide (2 < k.sum) with
      | true =>
        rw [h2] at q
        exact q
      | false =>
        rw [h2] at q
        refine ⟨rfl, e_isJ vb.p ?_⟩
        cases hb : isJ b with
        | false =>
          rw [hb] at q
          exact q
        | true =>
          rw [hb] at q
          obtain ⟨r, rfl, _, _⟩ := isJ_of hb
          refine ⟨rfl, e_isJ vc.p ?_⟩
          cases hc : isJ c with
          | false =>
            rw [hc] at q
            exact q
          | true =>
            rw [hc] at q
            obtain ⟨s, rfl, _, _⟩ := isJ_of hc
            exact q
theorem e_needT {x : D} (v : Pd x) (h1 : isT x = false → ξ ⟨"BadTile", [("thing", x)]⟩) (h2 : isT x = true → Q .non) : tf_need_tile ξ [x] Q := by
  refine ⟨rfl, e_isT v ?_⟩
  cases h : isT x with
  | false => exact h1 h
  | true => exact h2 h
end K16
set_option Elab.async false
set_option linter.all false
set_option maxHeartbeats 1000000
set_option maxRecDepth 100000
namespace K16
open PySem PySem.Spec L2 DL
variable {ξ : XT} {Q : D → Prop}
/-! ### is it a tile, by the law -/
theorem plains_ints : ∀ ns : List Int, plains (ns.map D.int) = true
  | [] => rfl
  | n :: ns => by
    show (true && plains (ns.map D.int)) = true
    rw [plains_ints ns]; rfl
theorem toPs_ints : ∀ ns : List Int, toPs (ns.map D.int) = ns.map PyData.int
  | [] => rfl
  | n :: ns => by
    show PyData.int n :: toPs (ns.map D.int) = _
    rw [toPs_ints ns]; rfl
theorem ne_nil {ns : List Int} (q : Q (.bl (!ns.isEmpty))) : gNe (.lst (ns.map D.int)) (.lst []) Q := by
  refine ⟨⟨?_, by decide +kernel⟩, ?_⟩
  · unfold eqOk
    rw [show plain (.lst (ns.map D.int)) = plains (ns.map D.int) from rfl, plains_ints, show toP (.lst (ns.map D.int)) = .list (toPs (ns.map D.int)) from rfl, toPs_ints, shaped_ints]
    rfl
  · rw [show toP (.lst (ns.map D.int)) = .list (toPs (ns.map D.int)) from rfl, toPs_ints, show toP (.lst []) = .list [] from rfl, eqv_ints_nil]
    exact q
def odds (ds : List D) : List Int := (ds.filter fun d => !isI d).map fun _ => 1
theorem lc_odd {x : Slot} : ∀ {ds : List D} {Q' : List D → Prop}, (∀ d ∈ ds, plainR d = true) → Q' ((odds ds).map D.int) → lcD (dgName 1) (dtOr (dtNot (dTest (dUn (gIs .int) (dVar 1)))) (dTest (dUn (gIs .bool) (dVar 1)))) (dC (.int 1)) [x, .un] ds Q'
  | [], _, _, q => q
  | d :: ds, Q', h, q => by
    have h1 := h d List.mem_cons_self
    have h2 := fun e m => h e (List.mem_cons_of_mem _ m)
    unfold odds at q
    cases hi : isI d with
    | true =>
      rw [List.filter_cons_of_neg (by rw [hi]; decide)] at q
      obtain ⟨i, rfl⟩ := isI_of hi
      exact ⟨rfl, rfl, lc_odd h2 q⟩
    | false =>
      rw [List.filter_cons_of_pos (by rw [hi]; decide)] at q
      have z := lc_odd (x := x) (Q' := fun ys => Q' (.int 1 :: ys)) h2 q
      cases d with
      | int i => cases hi
      | bl b => exact ⟨rfl, rfl, z⟩
      | deck => cases h1
      | ty n => cases h1
      | kt n => cases h1
      | _ => exact ⟨rfl, z⟩
theorem odds_nil {ds : List D} : (!(odds ds).isEmpty) = !ds.all isI := by
  unfold odds
  induction ds with
  | nil => rfl
  | cons d ds ih =>
    cases hi : isI d with
    | true =>
      rw [List.filter_cons_of_neg (by rw [hi]; decide), ih, List.all_cons, hi]
      rfl
    | false =>
      rw [List.filter_cons_of_pos (by rw [hi]; decide), List.all_cons, hi]
      rfl
theorem in2 {b : Int} : inV (.int b) [.int 1, .int 2] = (decide (1 ≤ b) && decide (b ≤ 2)) := by
  rw [Bool.eq_iff_iff]
  simp [inV, eqV]
  omega
theorem isT_tup {a b c : D} (h : isTn 5 a = false) : isT (.tup [a, b, c]) = false := by
  cases e : isT (.tup [a, b, c]) with
  | false => rfl
  | true =>
    obtain ⟨t, e1, _⟩ := isT_of e
    cases e1
    exact absurd (show isTn 5 t.k.D = true from rfl) (by rw [h]; decide)
theorem tn_ne {n : Int} {ds : List D} (h : isTn n (.tup ds) = false) : decide ((ds.length : Int) = n) = false := h
theorem e_lit {x : D} (v : Pd x) (q : Q (.bl (isT x))) : tf__law_is_tile ξ [x] Q := by
  cases x with
  | tup ds =>
    refine ⟨rfl, ?_⟩
    show (if (!decide ((ds.length : Int) = 3)) = true then _ else _)
    cases hl : isTn 3 (.tup ds) with
    | false =>
      rw [tn_ne hl]
      rw [isT_n hl] at q
      exact q
    | true =>
      obtain ⟨a, b, c, e⟩ := tn3 hl
      cases e
      have va := v.part a (by simp)
      have vb := v.part b (by simp)
      have vc := v.part c (by simp)
      cases a with
      | tup ds =>
        refine ⟨rfl, ?_⟩
        show (if (!decide ((ds.length : Int) = 5)) = true then _ else _)
        cases h5 : decide ((ds.length : Int) = 5) with
        | false =>
          rw [isT_tup (show isTn 5 (.tup ds) = false from h5)] at q
          exact q
        | true =>
          have l5 : ds.length = 5 := by have := of_decide_eq_true h5; omega
          have c1 : ds.length + 2 ≤ sizeLine := by rw [l5]; exact szN 7
          have c2 : (ds ++ [b, c]).length ≤ sizeLine := by rw [List.length_append]; exact c1
          refine ⟨c1, c2, lc_odd (ds := ds ++ [b, c]) (Q' := fun ys => dBin gNe (fun _ _ Q => Q (.lst ys)) (dLst dNil) (fun _ _ => False) [] _) (fun d m => ?_) ⟨szN 0, ne_nil ?_⟩⟩
          · rcases List.mem_append.mp m with m | m
            · exact (va.part d m).p
            · simp only [List.mem_cons, List.not_mem_nil, or_false] at m
              rcases m with rfl | rfl
              · exact vb.p
              · exact vc.p
          · rw [odds_nil]
            cases ha : (ds ++ [b, c]).all isI with
            | false =>
              have e : isT (.tup [.tup ds, b, c]) = false := by
                cases e : isT (.tup [.tup ds, b, c]) with
                | false => rfl
                | true =>
                  obtain ⟨t, e1, _⟩ := isT_of e
                  cases e1
                  cases ha
              rw [e] at q
              exact q
            | true =>
              rw [List.all_append] at ha
              simp only [List.all_cons, List.all_nil, Bool.and_true, Bool.and_eq_true] at ha
              obtain ⟨h1, h2, h3⟩ := ha
              obtain ⟨k, rfl⟩ := all5 l5 h1
              obtain ⟨r, rfl⟩ := isI_of h2
              obtain ⟨s, rfl⟩ := isI_of h3
              have e : isT (.tup [k.D, .int r, .int s]) = (inV (.int k.sum) [.int 1, .int 2] && (decide (0 ≤ r) && (decide (r < s) && decide (s < 5)))) := by
                show (isC k.D && (!decide (2 < sm k.D) && (isJ (.int r) && (isJ (.int s) && decide (r < s))))) = _
                rw [isC_D, sm_D, in2]
                show ((decide (1 ≤ k.sum) && decide (k.sum ≤ 4)) && (!decide (2 < k.sum) && ((decide (0 ≤ r) && decide (r ≤ 4)) && ((decide (0 ≤ s) && decide (s ≤ 4)) && decide (r < s))))) = _
                rw [Bool.eq_iff_iff]
                simp only [Bool.and_eq_true, decide_eq_true_eq, Bool.not_eq_true', decide_eq_false_iff_not]
                omega
              have q : Q (.bl (isT (.tup [k.D, .int r, .int s]))) := q
              rw [e] at q
              refine ⟨szN 2, ?_⟩
              refine (andq q fun q => ?_ : if inV (.int k.sum) [.int 1, .int 2] = true then _ else Q (.bl false))
              refine (andq q fun q => ?_ : if decide (0 ≤ r) = true then _ else Q (.bl false))
              refine (andq q fun q => ?_ : if decide (r < s) = true then _ else Q (.bl false))
              exact q
      | deck => cases va.p
      | ty n => cases va.p
      | kt n => cases va.p
      | _ =>
        rw [isT_tup rfl] at q
        exact ⟨rfl, q⟩
  | deck => cases v.p
  | ty n => cases v.p
  | kt n => cases v.p
  | _ => exact ⟨rfl, q⟩
end K16
set_option Elab.async false
set_option linter.all false
set_option maxHeartbeats 1000000
set_option maxRecDepth 100000
namespace K16
open PySem PySem.Spec L2 DL
variable {ξ : XT} {Q : D → Prop}
theorem five {j : Int} (j0 : 0 ≤ j) (j1 : j ≤ 4) : j = 0 ∨ j = 1 ∨ j = 2 ∨ j = 3 ∨ j = 4 := by omega
theorem e_stepped {k : R5} {j m : Int} (j0 : 0 ≤ j) (j1 : j ≤ 4) (q : Q (k.up j m).D) : tf_stepped ξ [k.D, .int j, .int m] Q := by
  rcases five j0 j1 with rfl | rfl | rfl | rfl | rfl
  · exact ⟨rfl, szN 1, szN 1, szN 5, q⟩
  · exact ⟨rfl, szN 1, szN 2, szN 5, q⟩
  · exact ⟨rfl, szN 1, szN 3, szN 5, q⟩
  · exact ⟨rfl, szN 1, szN 4, szN 5, q⟩
  · exact ⟨rfl, szN 1, szN 5, szN 5, q⟩
theorem e_lstep {k : R5} {j m : Int} (j0 : 0 ≤ j) (j1 : j ≤ 4) (q : Q (k.up j m).D) : tf__law_step ξ [k.D, .int j, .int m] Q := by
  rcases five j0 j1 with rfl | rfl | rfl | rfl | rfl
  · exact ⟨szN 1, szN 1, szN 5, q⟩
  · exact ⟨szN 1, szN 2, szN 5, q⟩
  · exact ⟨szN 1, szN 3, szN 5, q⟩
  · exact ⟨szN 1, szN 4, szN 5, q⟩
  · exact ⟨szN 1, szN 5, szN 5, q⟩
theorem up_sum {k : R5} {j m : Int} (j0 : 0 ≤ j) (j1 : j ≤ 4) : (k.up j m).sum = k.sum + m := by
  have e : ∀ l : R5, l.sum = l.a + (l.b + (l.c + (l.d + (l.e + 0)))) := fun _ => rfl
  rw [e, e]
  rcases five j0 j1 with rfl | rfl | rfl | rfl | rfl
  · show k.a + m + (k.b + (k.c + (k.d + (k.e + 0)))) = _; omega
  · show k.a + (k.b + m + (k.c + (k.d + (k.e + 0)))) = _; omega
  · show k.a + (k.b + (k.c + m + (k.d + (k.e + 0)))) = _; omega
  · show k.a + (k.b + (k.c + (k.d + m + (k.e + 0)))) = _; omega
  · show k.a + (k.b + (k.c + (k.d + (k.e + m + 0)))) = _; omega
section
variable {t u : Tl}
theorem Tl.Ok.r4 (h : t.Ok) : t.r ≤ 4 := by
  have := h.rs
  have := h.s4
  omega
theorem Tl.Ok.s0 (h : t.Ok) : 0 ≤ t.s := by
  have := h.rs
  have := h.r0
  omega
def eds (t : Tl) : List D := [eD (t.E 0), eD (t.E 1), eD (t.E 2), eD (t.E 3)]
theorem need {x : Prop} (h : t.Ok) : isT t.D = false → x := fun z => absurd h.isT (by rw [z]; decide)
theorem e_edges (h : t.Ok) (q : Q (.tup (eds t))) : tf_edges_of ξ [t.D] Q :=
  ⟨rfl, e_needT (pd_T t) (need h) fun _ => ⟨rfl, szN 2, szN 2, rfl, e_stepped h.s0 h.s4 ⟨szN 2, rfl, e_stepped h.r0 h.r4 ⟨szN 2, szN 4, q⟩⟩⟩⟩
theorem e_edgesK (h : t.Ok) (q : Q (.kt (eds t))) : tf_edges_of_K ξ [t.D] Q :=
  ⟨rfl, e_needT (pd_T t) (need h) fun _ => ⟨rfl, szN 2, szN 2, rfl, e_stepped h.s0 h.s4 ⟨szN 2, rfl, e_stepped h.r0 h.r4 ⟨szN 2, szN 4, q⟩⟩⟩⟩
/-- its edges, what lies beside, which way -/
def bsd (t : Tl) : Nat → Int
  | 0 => t.s
  | 1 => t.r
  | 2 => t.s
  | _ => t.r
def upn : Nat → Int
  | 0 => 1
  | 1 => 1
  | _ => 0
def bo (t : Tl) (i : Nat) : D := .tup [eD (t.E i), .int (bsd t i), .int (upn i)]
theorem e_borders (h : t.Ok) (q : Q (.lst [bo t 0, bo t 1, bo t 2, bo t 3])) : tf__law_borders ξ [t.D] Q :=
  ⟨rfl, szN 2, szN 3, szN 2, szN 3, rfl, e_lstep h.s0 h.s4 ⟨szN 2, szN 3, rfl, e_lstep h.r0 h.r4 ⟨szN 2, szN 3, szN 4, q⟩⟩⟩
/-! ### the place of an edge -/
def pl (t : Tl) (x : Ed) : Option Nat := if t.E 0 = x then some 0 else if t.E 1 = x then some 1 else if t.E 2 = x then some 2 else if t.E 3 = x then some 3 else none
theorem pl_lt {x : Ed} {j : Nat} (h : pl t x = some j) : j < 4 := by
  unfold pl at h
  repeat' split at h
  all_goals first | (cases h; decide) | cases h
def toEd : D → Ed
  | .tup [.tup [.int a, .int b, .int c, .int d, .int e], .int j] => (⟨a, b, c, d, e⟩, j)
  | _ => (⟨0, 0, 0, 0, 0⟩, 0)
theorem toEd_eD (x : Ed) : toEd (eD x) = x := rfl
def plX (t : Tl) (x : D) : Option Nat := if isE x = true then pl t (toEd x) else none
def oD : Option Nat → D
  | some i => .int (i : Nat)
  | none => .non
theorem eqv_E (x y : Ed) : PyData.eqv (toP (eD x)) (toP (eD y)) = decide (x = y) := by
  obtain ⟨⟨a, b, c, d, e⟩, j⟩ := x
  obtain ⟨⟨a', b', c', d', e'⟩, j'⟩ := y
  rw [Bool.eq_iff_iff]
  simp [eD, R5.D, toP, toPs, PyData.eqv, PyData.eqvAll, Prod.mk.injEq, R5.mk.injEq, and_assoc]
theorem eqOk_E (x : Ed) : eqOk (eD x) = true := by
  simp [eqOk, eD, R5.D, DL.plain, plains, toP, toPs, SeqAt.shaped, PyData.canLay0, PyData.canLayAll0, PyData.depth, PyData.depthAll]
theorem eqOk_K : eqOk (.kt (eds t)) = true := by
  simp [eqOk, eds, eD, R5.D, DL.plain, plains, toP, toPs, SeqAt.shaped, PyData.canLay0, PyData.canLayAll0, PyData.depth, PyData.depthAll]
theorem in_pl (x : Ed) : inD (eD x) (eds t) = (pl t x).isSome := by
  unfold inD eds pl
  simp only [toPs, List.any_cons, List.any_nil, eqv_E]
  repeat' split
  all_goals simp_all
theorem idx_pl (x : Ed) : idxD (eD x) (eds t) = pl t x := by
  unfold idxD eds pl
  simp only [toPs, List.findIdx?_cons, eqv_E, List.findIdx?_nil]
  repeat' split
  all_goals simp_all
theorem e_place {x : D} (h : t.Ok) (v : Pd x) (q : Q (oD (plX t x))) : tf__place_of_edge ξ [t.D, x] Q := by
  unfold plX at q
  refine ⟨rfl, e_ito v.p ?_⟩
  cases h2 : isTn 2 x with
  | false =>
    rw [isE_n h2] at q
    exact q
  | true =>
    obtain ⟨a, b, rfl⟩ := tn2 h2
    have va := v.part a (by simp)
    have vb := v.part b (by simp)
    have hE : isE (.tup [a, b]) = (isC a && isJ b) := rfl
    rw [hE] at q
    refine ⟨rfl, e_isC va.pl ?_⟩
    cases hc : isC a with
    | false =>
      rw [hc] at q
      exact q
    | true =>
      rw [hc] at q
      refine ⟨rfl, e_isJ vb.p ?_⟩
      cases hj : isJ b with
      | false =>
        rw [hj] at q
        exact q
      | true =>
        rw [hj] at q
        obtain ⟨k, rfl, _, _⟩ := isC_of hc
        obtain ⟨j, rfl, _, _⟩ := isJ_of hj
        have q : Q (oD (pl t (k, j))) := q
        refine ⟨rfl, e_edgesK h ?_⟩
        show (eqOk (eD (k, j)) = true ∧ eqOk (.kt (eds t)) = true) ∧ (if inD (eD (k, j)) (eds t) = true then _ else _)
        refine ⟨⟨eqOk_E _, eqOk_K⟩, ?_⟩
        rw [in_pl]
        cases hp : pl t (k, j) with
        | none =>
          rw [hp] at q
          exact q
        | some i =>
          rw [hp] at q
          show (eqOk (.kt (eds t)) = true ∧ eqOk (eD (k, j)) = true) ∧ (match idxD (eD (k, j)) (eds t) with | some j => Q (.int (j : Nat)) | none => False)
          refine ⟨⟨eqOk_K, eqOk_E _⟩, ?_⟩
          rw [idx_pl, hp]
          exact q
end
end K16
set_option Elab.async false
set_option linter.all false
set_option maxHeartbeats 1000000
set_option maxRecDepth 100000
namespace K16
open PySem PySem.Spec L2 DL
variable {ξ : XT} {Q : D → Prop}
/-! ### left and right -/
def lfB (r s : Int) : Nat → Bool
  | 0 => inV (.int ((s - r) % 5)) [.int 1, .int 2]
  | 1 => inV (.int ((r - s) % 5)) [.int 1, .int 2]
  | 2 => inV (.int ((s - r) % 5)) [.int 3, .int 4]
  | _ => inV (.int ((r - s) % 5)) [.int 3, .int 4]
theorem p5 : (0 : Int) < 5 := by decide
theorem four {i : Nat} (h : i < 4) : i = 0 ∨ i = 1 ∨ i = 2 ∨ i = 3 := by omega
section
variable {t u : Tl}
theorem e_left {i : Nat} (h : i < 4) (q : Q (.bl (lfB t.r t.s i))) : tf__is_left_at ξ [t.D, .int (i : Nat)] Q := by
  rcases four h with rfl | rfl | rfl | rfl
  · exact ⟨rfl, szN 2, p5, szN 2, q⟩
  · exact ⟨rfl, szN 2, p5, szN 2, q⟩
  · exact ⟨rfl, szN 2, p5, szN 2, q⟩
  · exact ⟨rfl, szN 2, p5, szN 2, q⟩
def lhB (j b w : Int) : Bool := decide (((if w = 1 then 2 * b else 2 * b + 5) - 2 * j) % 10 < 5)
theorem e_lh {j b w : Int} (hj : 0 ≤ j) (j4 : j ≤ 4) (hb : 0 ≤ b) (b4 : b ≤ 4) (hw : w = 0 ∨ w = 1) (q : Q (.bl (lhB j b w))) : tf__law_is_lefthand ξ [.int j, .int b, .int w] Q := by
  have cb : CMulW 2 b := Bd.cmul (n := 3) .lit (bd_small (n := 5) (m := 3) hb (by omega))
  have cj : CMulW 2 j := Bd.cmul (n := 3) .lit (bd_small (n := 5) (m := 3) hj (by omega))
  have p10 : (0 : Int) < 10 := by decide
  rcases hw with rfl | rfl
  · exact ⟨cb, cj, p10, q⟩
  · exact ⟨cb, cj, p10, q⟩
theorem pairs (h : t.Ok) : ∀ P : Int → Int → Prop, P 0 1 → P 0 2 → P 0 3 → P 0 4 → P 1 2 → P 1 3 → P 1 4 → P 2 3 → P 2 4 → P 3 4 → P t.r t.s := by
  intro P h1 h2 h3 h4 h5 h6 h7 h8 h9 h10
  have a := h.r0
  have b := h.rs
  have c := h.s4
  generalize t.r = r at *
  generalize t.s = s at *
  have : (r = 0 ∧ s = 1) ∨ (r = 0 ∧ s = 2) ∨ (r = 0 ∧ s = 3) ∨ (r = 0 ∧ s = 4) ∨ (r = 1 ∧ s = 2) ∨ (r = 1 ∧ s = 3) ∨ (r = 1 ∧ s = 4) ∨ (r = 2 ∧ s = 3) ∨ (r = 2 ∧ s = 4) ∨ (r = 3 ∧ s = 4) := by omega
  rcases this with ⟨rfl, rfl⟩ | ⟨rfl, rfl⟩ | ⟨rfl, rfl⟩ | ⟨rfl, rfl⟩ | ⟨rfl, rfl⟩ | ⟨rfl, rfl⟩ | ⟨rfl, rfl⟩ | ⟨rfl, rfl⟩ | ⟨rfl, rfl⟩ | ⟨rfl, rfl⟩ <;> assumption
def lh4 (r s : Int) : Bool := (lhB r s 1 == lfB r s 0) && ((lhB s r 1 == lfB r s 1) && ((lhB r s 0 == lfB r s 2) && (lhB s r 0 == lfB r s 3)))
theorem lh_lf (h : t.Ok) {i : Nat} (hi : i < 4) : lhB (t.E i).2 (bsd t i) (upn i) = lfB t.r t.s i := by
  have z : lh4 t.r t.s = true := pairs h (fun r s => lh4 r s = true) (by decide +kernel) (by decide +kernel) (by decide +kernel) (by decide +kernel) (by decide +kernel) (by decide +kernel) (by decide +kernel) (by decide +kernel) (by decide +kernel) (by decide +kernel)
  unfold lh4 at z
  simp only [Bool.and_eq_true, beq_iff_eq] at z
  obtain ⟨h1, h2, h3, h4⟩ := z
  rcases four hi with rfl | rfl | rfl | rfl
  · exact h1
  · exact h2
  · exact h3
  · exact h4
theorem E_rng (h : t.Ok) (i : Nat) : 0 ≤ (t.E i).2 ∧ (t.E i).2 ≤ 4 := by
  have a := h.r0
  have b := h.rs
  have c := h.s4
  unfold Tl.E
  split <;> (show 0 ≤ (_ : Int) ∧ (_ : Int) ≤ 4) <;> dsimp only <;> omega
theorem bsd_rng (h : t.Ok) (i : Nat) : 0 ≤ bsd t i ∧ bsd t i ≤ 4 := by
  have a := h.r0
  have b := h.rs
  have c := h.s4
  unfold bsd
  split <;> omega
theorem upn_two (i : Nat) : upn i = 0 ∨ upn i = 1 := by
  unfold upn
  split
  · exact .inr rfl
  · exact .inr rfl
  · exact .inl rfl
theorem e_lhE (h : t.Ok) {i : Nat} (hi : i < 4) (q : Q (.bl (lfB t.r t.s i))) : tf__law_is_lefthand ξ [.int (t.E i).2, .int (bsd t i), .int (upn i)] Q := by
  rw [← lh_lf h hi] at q
  exact e_lh (E_rng h i).1 (E_rng h i).2 (bsd_rng h i).1 (bsd_rng h i).2 (upn_two i) q
/-! ### marks -/
def thk (r s : Int) : Bool := inV (.int (s - r)) [.int 1, .int 4]
def inn (l r s : Int) : Str := if (thk r s == decide (l = 1)) = true then "up" else "down"
def mkS (l r s : Int) (i : Nat) : Str := if (decide (l = 1) == decide (i < 2)) = true then "outer" else inn l r s
theorem eqB {a b : Bool} {Q : D → Prop} (q : Q (.bl (a == b))) : gEq (.bl a) (.bl b) Q := by
  refine ⟨⟨by cases a <;> rfl, by cases b <;> rfl⟩, ?_⟩
  cases a <;> cases b <;> exact q
theorem neB {a b : Bool} {Q : D → Prop} (q : Q (.bl (a != b))) : gNe (.bl a) (.bl b) Q := by
  refine ⟨⟨by cases a <;> rfl, by cases b <;> rfl⟩, ?_⟩
  cases a <;> cases b <;> exact q
theorem e_thick (h : t.Ok) (q : Q (.bl (thk t.r t.s))) : tf_is_thick ξ [t.D] Q := ⟨rfl, e_needT (pd_T t) (need h) fun _ => ⟨szN 2, q⟩⟩
theorem e_low (h : t.Ok) (q : Q (.bl (decide (t.k.sum = 1)))) : tf_is_low ξ [t.D] Q := ⟨rfl, e_needT (pd_T t) (need h) fun _ => q⟩
theorem gin2 {a x y : Int} {P : D → Prop} (h : P (.bl (inV (.int a) [.int x, .int y]))) : gIn false (.int a) (.tup [.int x, .int y]) P := h
def mk4 (t : Tl) : List D := [.str (mkS t.k.sum t.r t.s 0), .str (mkS t.k.sum t.r t.s 1), .str (mkS t.k.sum t.r t.s 2), .str (mkS t.k.sum t.r t.s 3)]
theorem e_marks (h : t.Ok) (q : Q (.tup (mk4 t))) : tf_marks_of ξ [t.D] Q := by
  refine ⟨rfl, e_needT (pd_T t) (need h) fun _ => ?_⟩
  refine ⟨rfl, e_thick h ⟨rfl, e_low h (eqB ?_)⟩⟩
  unfold mk4 mkS inn at q
  cases hb : (thk t.r t.s == decide (t.k.sum = 1)) with
  | true =>
    rw [hb] at q
    refine ⟨rfl, e_low h ?_⟩
    cases hl : decide (t.k.sum = 1) with
    | true =>
      rw [hl] at q
      exact ⟨szN 4, q⟩
    | false =>
      rw [hl] at q
      exact ⟨szN 4, q⟩
  | false =>
    rw [hb] at q
    refine ⟨rfl, e_low h ?_⟩
    cases hl : decide (t.k.sum = 1) with
    | true =>
      rw [hl] at q
      exact ⟨szN 4, q⟩
    | false =>
      rw [hl] at q
      exact ⟨szN 4, q⟩
theorem mk_at {i : Nat} (h : i < 4) (q : Q (.str (mkS t.k.sum t.r t.s i))) : gIx (.tup (mk4 t)) (.int (i : Nat)) Q := by
  rcases four h with rfl | rfl | rfl | rfl <;> exact q
theorem E_sum (h : t.Ok) {i : Nat} : (t.E i).1.sum = t.k.sum + if i < 2 then 0 else 1 := by
  unfold Tl.E
  split
  · show t.k.sum = t.k.sum + 0; omega
  · show t.k.sum = t.k.sum + 0; omega
  · exact up_sum h.s0 h.s4
  · rename_i n1 n2 n3
    rw [if_neg]
    · exact up_sum h.r0 h.r4
    · intro z
      have : i = 0 ∨ i = 1 := by omega
      rcases this with e | e
      · exact n1 e
      · exact n2 e
theorem e_lmark (h : t.Ok) {i : Nat} (hi : i < 4) (q : Q (.str (mkS t.k.sum t.r t.s i))) : tf__law_mark ξ [t.D, eD (t.E i)] Q := by
  show (if (!decide ((t.E i).1.sum = 2)) = true then _ else _)
  unfold mkS inn at q
  rw [E_sum h]
  have fin : ∀ {l : Int}, t.k.sum = l → Q (.str (if (thk t.r t.s == decide (l = 1)) = true then "up" else "down")) → (dRet (dIf (dTest (dBin gEq (dBin (gIn false) (dBin gSub (dBin gIx (dVar 0) (dC (.int 2))) (dBin gIx (dVar 0) (dC (.int 1)))) (dTup (dCons (dC (.int 1)) (dCons (dC (.int 4)) dNil)))) (dBin gEq (dCB gSum (dCons (dBin gIx (dVar 0) (dC (.int 0))) dNil)) (dC (.int 1))))) (dC (.str "up")) (dC (.str "down")))) (fun _ _ => False) { nx := fun _ => Q .non, rt := Q } [.d t.D, .d (eD (t.E i))] := by
    intro l e q
    subst e
    have z : gEq (.bl (thk t.r t.s)) (.bl (decide (t.k.sum = 1))) (fun d => match d with | .bl b => (if b = true then Q (.str "up") else Q (.str "down")) | _ => False) := by
      refine eqB ?_
      show (if (thk t.r t.s == decide (t.k.sum = 1)) = true then Q (.str "up") else Q (.str "down"))
      cases hb : (thk t.r t.s == decide (t.k.sum = 1)) with
      | true =>
        rw [hb] at q
        exact q
      | false =>
        rw [hb] at q
        exact q
    exact ⟨szN 2, z⟩
  rcases h.l with e | e
  · rw [e] at q ⊢
    rcases four hi with rfl | rfl | rfl | rfl
    · exact q
    · exact q
    · exact fin e q
    · exact fin e q
  · rw [e] at q ⊢
    rcases four hi with rfl | rfl | rfl | rfl
    · exact fin e q
    · exact fin e q
    · exact q
    · exact q
end
end K16
set_option Elab.async false
set_option linter.all false
set_option maxHeartbeats 1000000
set_option maxRecDepth 100000
namespace K16
open PySem PySem.Spec L2 DL
variable {ξ : XT} {Q : D → Prop}
/-! ### two tiles -/
def val (t u : Tl) (i j : Nat) : Bool := decide (mkS t.k.sum t.r t.s i = mkS u.k.sum u.r u.s j) && (lfB t.r t.s i != lfB u.r u.s j)
def fitF (t u : Tl) (i : Nat) (rest : Bool) : Bool := match pl u (t.E i) with
  | some j => val t u i j
  | none => rest
def fit (t u : Tl) : Bool := fitF t u 0 (fitF t u 1 (fitF t u 2 (fitF t u 3 false)))
section
variable {t u : Tl} {De : DEnds} {ζ : XW} {s2 s3 s4 s5 s6 s7 s8 : Slot}
theorem isE_E (h : t.Ok) {i : Nat} : isE (eD (t.E i)) = true := by
  have a := E_sum h (i := i)
  obtain ⟨b, c⟩ := E_rng h i
  have l := h.l
  show (isC (t.E i).1.D && isJ (.int (t.E i).2)) = true
  rw [isC_D, isJ_j b c]
  have h1 : 1 ≤ (t.E i).1.sum := by rw [a]; split <;> omega
  have h2 : (t.E i).1.sum ≤ 4 := by rw [a]; split <;> omega
  rw [decide_eq_true h1, decide_eq_true h2]; rfl
theorem plX_E (h : t.Ok) {i : Nat} : plX u (eD (t.E i)) = pl u (t.E i) := by
  unfold plX
  rw [isE_E h]; rfl
abbrev FB : TDS := (dSeq (dAsg (dCallX 2 tf__place_of_edge (dCons (dVar 1) (dCons (dVar 3) dNil))) (dgName 4))
    (dIfS (dTest (dBin gNotN (dVar 4) (dC .non)))
    (dSeq (dAsg (dBin gEq (dBin gIx (dCallX 1 tf_marks_of (dCons (dVar 0) dNil)) (dVar 2)) (dBin gIx (dCallX 1 tf_marks_of (dCons (dVar 1) dNil)) (dVar 4))) (dgName 5))
    (dRet (dAnd (dVar 5) (dBin gNe (dCall 2 tf__is_left_at (dCons (dVar 0) (dCons (dVar 2) dNil))) (dCall 2 tf__is_left_at (dCons (dVar 1) (dCons (dVar 4) dNil)))))))
    dNext))
theorem f_turn (ht : t.Ok) (hu : u.Ok) {i : Nat} (hi : i < 4) (q1 : ∀ j, pl u (t.E i) = some j → De.rt (.bl (val t u i j))) (q2 : pl u (t.E i) = none → ∀ s4, De.nx [.d t.D, .d u.D, .d (.int (i : Nat)), .d (eD (t.E i)), s4, s5]) :
    FB ζ De [.d t.D, .d u.D, .d (.int (i : Nat)), .d (eD (t.E i)), s4, s5] := by
  refine ⟨rfl, e_place hu (pd_E _) ?_⟩
  rw [plX_E ht]
  cases hp : pl u (t.E i) with
  | none => exact q2 hp _
  | some j =>
    have q := q1 j hp
    have hj := pl_lt hp
    refine ⟨rfl, e_marks ht (mk_at hi ⟨rfl, e_marks hu (mk_at hj ?_)⟩)⟩
    unfold val at q
    show (if decide (mkS t.k.sum t.r t.s i = mkS u.k.sum u.r u.s j) = true then _ else _)
    cases hm : decide (mkS t.k.sum t.r t.s i = mkS u.k.sum u.r u.s j) with
    | false =>
      rw [hm] at q
      exact q
    | true =>
      rw [hm] at q
      exact ⟨rfl, e_left hi ⟨rfl, e_left hj (neB q)⟩⟩
abbrev FG : TDG := dgTup 2 (dgCons (dgName 2) (dgCons (dgName 3) dgNil))
theorem f_loop {i : Nat} (ht : t.Ok) (hu : u.Ok) (hi : i < 4) {xs : List D} {b : Bool} (q : De.rt (.bl (fitF t u i b))) (h : pl u (t.E i) = none → De.rt (.bl b) → ∀ s2 s3 s4, forD FG FB ζ De xs [.d t.D, .d u.D, s2, s3, s4, s5]) :
    forD FG FB ζ De (.tup [.int (i : Nat), eD (t.E i)] :: xs) [.d t.D, .d u.D, s2, s3, s4, s5] := by
  unfold fitF at q
  refine ⟨rfl, f_turn (De := { De with nx := forD FG FB ζ De xs, ct := forD FG FB ζ De xs, bk := De.nx }) ht hu hi (fun j hj => ?_) (fun hn s4 => ?_)⟩
  · rw [hj] at q
    exact q
  · rw [hn] at q
    exact h hn q _ _ _
theorem e_fit (ht : t.Ok) (hu : u.Ok) (q : Q (.bl (fit t u))) : tf_does_fit ξ [t.D, u.D] Q := by
  refine ⟨rfl, e_needT (pd_T t) (need ht) fun _ => ?_⟩
  refine ⟨rfl, e_needT (pd_T u) (need hu) fun _ => ?_⟩
  refine ⟨rfl, e_edges ht ?_⟩
  have fin : ∀ {De : DEnds} {ζ : XW} {s2 s3 s4 s5 : Slot}, (De.rt (.bl (fit t u))) → (∀ s2 s3 s4, De.rt (.bl false) → De.nx [.d t.D, .d u.D, s2, s3, s4, s5]) → forD FG FB ζ De (enumD 0 (eds t)) [.d t.D, .d u.D, s2, s3, s4, s5] := by
    intro De ζ s2 s3 s4 s5 q n
    show forD FG FB ζ De [.tup [.int (0 : Nat), eD (t.E 0)], .tup [.int (1 : Nat), eD (t.E 1)], .tup [.int (2 : Nat), eD (t.E 2)], .tup [.int (3 : Nat), eD (t.E 3)]] _
    refine f_loop ht hu (by decide) q fun _ q _ _ _ => ?_
    refine f_loop ht hu (by decide) q fun _ q _ _ _ => ?_
    refine f_loop ht hu (by decide) q fun _ q _ _ _ => ?_
    exact f_loop ht hu (by decide) q fun _ q _ _ _ => n _ _ _ q
  exact fin q fun _ _ _ q => q
/-! ### by the law -/
abbrev IR : TDS := (dSeq (dPar 7 8 (dCons (dCall 3 tf__law_is_lefthand (dCons (dBin gIx (dVar 3) (dC (.int 1))) (dCons (dVar 4) (dCons (dVar 5) dNil)))) (dCons (dCall 3 tf__law_is_lefthand (dCons (dBin gIx (dVar 3) (dC (.int 1))) (dCons (dBin gIx (dVar 6) (dC (.int 1))) (dCons (dBin gIx (dVar 6) (dC (.int 2))) dNil)))) dNil)))
    (dRet (dAnd (dBin gNe (dVar 7) (dVar 8)) (dBin gEq (dCall 2 tf__law_mark (dCons (dVar 0) (dCons (dVar 3) dNil))) (dCall 2 tf__law_mark (dCons (dVar 1) (dCons (dVar 3) dNil)))))))
abbrev IB : TDS := (dIfS (dTest (dBin gEq (dBin gIx (dVar 6) (dC (.int 0))) (dVar 3))) IR dNext)
theorem eqE {x y : Ed} (q : Q (.bl (decide (x = y)))) : gEq (eD x) (eD y) Q := by
  show (eqOk (eD x) = true ∧ eqOk (eD y) = true) ∧ Q (.bl (PyData.eqv (toP (eD x)) (toP (eD y))))
  rw [eqv_E]
  exact ⟨⟨eqOk_E x, eqOk_E y⟩, q⟩
abbrev E9 (t u : Tl) (s2 : Slot) (i : Nat) (s6 s7 s8 : Slot) : SE := [.d t.D, .d u.D, s2, .d (eD (t.E i)), .d (.int (bsd t i)), .d (.int (upn i)), s6, s7, s8]
theorem i_turn (ht : t.Ok) (hu : u.Ok) {i j : Nat} (hi : i < 4) (hj : j < 4) (q1 : u.E j = t.E i → De.rt (.bl (val t u i j))) (q2 : u.E j ≠ t.E i → De.nx (E9 t u s2 i (.d (bo u j)) s7 s8)) :
    IB ζ De (E9 t u s2 i (.d (bo u j)) s7 s8) := by
  suffices body : u.E j = t.E i → IR ζ De (E9 t u s2 i (.d (bo u j)) s7 s8) by
    have z : gEq (eD (u.E j)) (eD (t.E i)) (fun d => match d with | .bl b => (if b = true then IR ζ De (E9 t u s2 i (.d (bo u j)) s7 s8) else De.nx (E9 t u s2 i (.d (bo u j)) s7 s8)) | _ => False) := eqE (ifd body q2)
    exact z
  intro e
  have q := q1 e
  refine ⟨rfl, e_lhE ht hi ?_⟩
  have fin : ∀ {x : Ed}, x = u.E j → De.rt (.bl (val t u i j)) → x = t.E i → (dCons (dCall 3 tf__law_is_lefthand (dCons (dBin gIx (dVar 3) (dC (.int 1))) (dCons (dBin gIx (dVar 6) (dC (.int 1))) (dCons (dBin gIx (dVar 6) (dC (.int 2))) dNil)))) dNil) ζ [.d t.D, .d u.D, s2, .d (eD x), .d (.int (bsd t i)), .d (.int (upn i)), .d (bo u j), s7, s8] (fun ds => match (D.bl (lfB t.r t.s i) :: ds) with
      | [a, b] => (dRet (dAnd (dBin gNe (dVar 7) (dVar 8)) (dBin gEq (dCall 2 tf__law_mark (dCons (dVar 0) (dCons (dVar 3) dNil))) (dCall 2 tf__law_mark (dCons (dVar 1) (dCons (dVar 3) dNil)))))) ζ De [.d t.D, .d u.D, s2, .d (eD x), .d (.int (bsd t i)), .d (.int (upn i)), .d (bo u j), .d a, .d b]
      | _ => False) := by
    intro x hx q hx2
    subst hx
    refine ⟨rfl, e_lhE hu hj ?_⟩
    have z : gNe (.bl (lfB t.r t.s i)) (.bl (lfB u.r u.s j)) (fun d => match d with | .bl b => (if b = true then (dBin gEq (dCall 2 tf__law_mark (dCons (dVar 0) (dCons (dVar 3) dNil))) (dCall 2 tf__law_mark (dCons (dVar 1) (dCons (dVar 3) dNil)))) ζ [.d t.D, .d u.D, s2, .d (eD (u.E j)), .d (.int (bsd t i)), .d (.int (upn i)), .d (bo u j), .d (.bl (lfB t.r t.s i)), .d (.bl (lfB u.r u.s j))] De.rt else De.rt (.bl false)) | _ => False) := by
      refine neB ?_
      unfold val at q
      rw [Bool.and_comm] at q
      show (if (lfB t.r t.s i != lfB u.r u.s j) = true then _ else _)
      cases hb : (lfB t.r t.s i != lfB u.r u.s j) with
      | false =>
        rw [hb] at q
        exact q
      | true =>
        rw [hb] at q
        refine ⟨rfl, ?_⟩
        have m2 : ∀ {P : D → Prop}, P (.str (mkS t.k.sum t.r t.s i)) → tf__law_mark (fun _ => False) [t.D, eD (u.E j)] P := fun p => by
          rw [hx2]
          exact e_lmark ht hi p
        exact m2 ⟨rfl, e_lmark hu hj q⟩
    exact z
  exact fin e.symm q rfl
theorem i_loop (ht : t.Ok) (hu : u.Ok) {i : Nat} (hi : i < 4) (q1 : ∀ j, pl u (t.E i) = some j → De.rt (.bl (val t u i j))) (q2 : pl u (t.E i) = none → ∀ s6, De.nx (E9 t u s2 i s6 s7 s8)) :
    forD (dgName 6) IB ζ De [bo u 0, bo u 1, bo u 2, bo u 3] (E9 t u s2 i s6 s7 s8) := by
  unfold pl at q1 q2
  refine i_turn (De := { De with nx := forD (dgName 6) IB ζ De [bo u 1, bo u 2, bo u 3], ct := forD (dgName 6) IB ζ De [bo u 1, bo u 2, bo u 3], bk := De.nx }) ht hu hi (by decide) (fun e => q1 0 (if_pos e)) fun n0 => ?_
  rw [if_neg n0] at q1 q2
  refine i_turn (De := { De with nx := forD (dgName 6) IB ζ De [bo u 2, bo u 3], ct := forD (dgName 6) IB ζ De [bo u 2, bo u 3], bk := De.nx }) ht hu hi (by decide) (fun e => q1 1 (if_pos e)) fun n1 => ?_
  rw [if_neg n1] at q1 q2
  refine i_turn (De := { De with nx := forD (dgName 6) IB ζ De [bo u 3], ct := forD (dgName 6) IB ζ De [bo u 3], bk := De.nx }) ht hu hi (by decide) (fun e => q1 2 (if_pos e)) fun n2 => ?_
  rw [if_neg n2] at q1 q2
  refine i_turn (De := { De with nx := forD (dgName 6) IB ζ De [], ct := forD (dgName 6) IB ζ De [], bk := De.nx }) ht hu hi (by decide) (fun e => q1 3 (if_pos e)) fun n3 => ?_
  rw [if_neg n3] at q2
  exact q2 rfl _
abbrev LG : TDG := dgTup 3 (dgCons (dgName 3) (dgCons (dgName 4) (dgCons (dgName 5) dgNil)))
abbrev OB : TDS := (dForV 2 (dgName 6) IB)
abbrev bos (u : Tl) : Slot := .d (.lst [bo u 0, bo u 1, bo u 2, bo u 3])
theorem l_loop {i : Nat} (ht : t.Ok) (hu : u.Ok) (hi : i < 4) {xs : List D} {b : Bool} (q : De.rt (.bl (fitF t u i b))) (h : pl u (t.E i) = none → De.rt (.bl b) → ∀ s3 s4 s5 s6, forD LG OB ζ De xs [.d t.D, .d u.D, bos u, s3, s4, s5, s6, s7, s8]) :
    forD LG OB ζ De (bo t i :: xs) [.d t.D, .d u.D, bos u, s3, s4, s5, s6, s7, s8] := by
  unfold fitF at q
  refine ⟨rfl, i_loop (De := { De with nx := forD LG OB ζ De xs, ct := forD LG OB ζ De xs, bk := De.nx }) ht hu hi (fun j hj => ?_) (fun hn s4 => ?_)⟩
  · rw [hj] at q
    exact q
  · rw [hn] at q
    exact h hn q _ _ _ _
theorem e_lfit (ht : t.Ok) (hu : u.Ok) (q : Q (.bl (fit t u))) : tf__law_do_fit ξ [t.D, u.D] Q := by
  refine ⟨rfl, e_borders hu ⟨rfl, e_borders ht ?_⟩⟩
  have fin : ∀ {De : DEnds} {ζ : XW} {s3 s4 s5 s6 s7 s8 : Slot}, (De.rt (.bl (fit t u))) → (∀ s3 s4 s5 s6, De.rt (.bl false) → De.nx [.d t.D, .d u.D, bos u, s3, s4, s5, s6, s7, s8]) → forD LG OB ζ De [bo t 0, bo t 1, bo t 2, bo t 3] [.d t.D, .d u.D, bos u, s3, s4, s5, s6, s7, s8] := by
    intro De ζ s3 s4 s5 s6 s7 s8 q n
    refine l_loop ht hu (by decide) q fun _ q _ _ _ _ => ?_
    refine l_loop ht hu (by decide) q fun _ q _ _ _ _ => ?_
    refine l_loop ht hu (by decide) q fun _ q _ _ _ _ => ?_
    exact l_loop ht hu (by decide) q fun _ q _ _ _ _ => n _ _ _ _ q
  exact fin q fun _ _ _ _ q => q
end
end K16
set_option Elab.async false
set_option linter.all false
set_option maxHeartbeats 1000000
set_option maxRecDepth 100000
namespace K16
open PySem PySem.Spec L2 DL
variable {ξ : XT} {Q : D → Prop}
/-! ### tiles beside one another -/
def z0 : R5 := ⟨0, 0, 0, 0, 0⟩
def sh (k : R5) (t : Tl) : Tl := ⟨k.add t.k, t.r, t.s⟩
theorem R5.ext' {k l : R5} (h1 : k.a = l.a) (h2 : k.b = l.b) (h3 : k.c = l.c) (h4 : k.d = l.d) (h5 : k.e = l.e) : k = l := by
  cases k
  cases l
  simp only at h1 h2 h3 h4 h5
  subst h1 h2 h3 h4 h5
  rfl
theorem add_inj {k x y : R5} : k.add x = k.add y ↔ x = y := by
  constructor
  · intro h
    unfold R5.add at h
    simp only [R5.mk.injEq] at h
    obtain ⟨h1, h2, h3, h4, h5⟩ := h
    exact R5.ext' (by omega) (by omega) (by omega) (by omega) (by omega)
  · rintro rfl
    rfl
theorem st_add {a x r j m : Int} : R5.st (a + x) r j m = a + R5.st x r j m := by
  unfold R5.st
  split <;> omega
theorem up_add {k x : R5} {j m : Int} : (k.add x).up j m = k.add (x.up j m) := R5.ext' st_add st_add st_add st_add st_add
theorem sum_add {k x : R5} : (k.add x).sum = k.sum + x.sum := by
  have e : ∀ l : R5, l.sum = l.a + (l.b + (l.c + (l.d + (l.e + 0)))) := fun _ => rfl
  rw [e, e, e]
  show k.a + x.a + (k.b + x.b + (k.c + x.c + (k.d + x.d + (k.e + x.e + 0)))) = _
  omega
theorem sh_z {t : Tl} : sh t.k ⟨z0, t.r, t.s⟩ = t := by
  obtain ⟨⟨a, b, c, d, e⟩, r, s⟩ := t
  unfold sh R5.add z0
  simp
theorem sh_inj {k : R5} {t u : Tl} : sh k t = sh k u ↔ t = u := by
  obtain ⟨a, r, s⟩ := t
  obtain ⟨b, r', s'⟩ := u
  unfold sh
  simp only [Tl.mk.injEq, add_inj]
def she (k : R5) (x : Ed) : Ed := (k.add x.1, x.2)
theorem she_inj {k : R5} {x y : Ed} : she k x = she k y ↔ x = y := by
  obtain ⟨a, b⟩ := x
  obtain ⟨c, d⟩ := y
  unfold she
  simp only [Prod.mk.injEq, add_inj]
theorem E_sh {k : R5} {t : Tl} {i : Nat} : (sh k t).E i = she k (t.E i) := by
  unfold Tl.E she sh
  split
  · rfl
  · rfl
  · rw [up_add]
  · rw [up_add]
theorem pl_sh {k : R5} {u : Tl} {x : Ed} : pl (sh k u) (she k x) = pl u x := by
  unfold pl
  simp only [E_sh, she_inj]
def valL (L : Int) (t u : Tl) (i j : Nat) : Bool := decide (mkS (L + t.k.sum) t.r t.s i = mkS (L + u.k.sum) u.r u.s j) && (lfB t.r t.s i != lfB u.r u.s j)
def fitG (L : Int) (t u : Tl) (i : Nat) (rest : Bool) : Bool := match pl u (t.E i) with
  | some j => valL L t u i j
  | none => rest
def fitL (L : Int) (t u : Tl) : Bool := fitG L t u 0 (fitG L t u 1 (fitG L t u 2 (fitG L t u 3 false)))
theorem val_sh {k : R5} {t u : Tl} {i j : Nat} : val (sh k t) (sh k u) i j = valL k.sum t u i j := by
  unfold val valL
  show (decide (mkS (k.add t.k).sum t.r t.s i = mkS (k.add u.k).sum u.r u.s j) && _) = _
  rw [sum_add, sum_add]
  rfl
theorem fitF_sh {k : R5} {t u : Tl} {i : Nat} {b : Bool} : fitF (sh k t) (sh k u) i b = fitG k.sum t u i b := by
  unfold fitF fitG
  rw [E_sh, pl_sh]
  cases pl u (t.E i) with
  | none => rfl
  | some j => exact val_sh
theorem fit_sh {k : R5} {t u : Tl} : fit (sh k t) (sh k u) = fitL k.sum t u := by
  unfold fit fitL
  rw [fitF_sh, fitF_sh, fitF_sh, fitF_sh]
def lo (j v : Int) : Int := if v < j then v else j
def hi (j v : Int) : Int := if v > j then v else j
def farT (x : Ed) (v m : Int) : Tl := ⟨x.1.up v m, lo x.2 v, hi x.2 v⟩
theorem far_sh {k : R5} {x : Ed} {v m : Int} : farT (she k x) v m = sh k (farT x v m) := by
  unfold farT she sh
  rw [up_add]
def ck (L r s : Int) (i : Nat) (v m : Int) : Bool :=
  let t : Tl := ⟨z0, r, s⟩
  let x := t.E i
  let u := farT x v m
  if v = x.2 then true else if L + u.k.sum = 1 ∨ L + u.k.sum = 2 then (if u = t then !fitL L t t else fitL L u t == fitL L t u) else true
def ckA (r s : Int) : Bool := [(1 : Int), 2].all fun L => [0, 1, 2, 3].all fun i => [(0 : Int), 1, 2, 3, 4].all fun v => [(0 : Int), -1].all fun m => ck L r s i v m
theorem ck_all : ckA 0 1 = true ∧ ckA 0 2 = true ∧ ckA 0 3 = true ∧ ckA 0 4 = true ∧ ckA 1 2 = true ∧ ckA 1 3 = true ∧ ckA 1 4 = true ∧ ckA 2 3 = true ∧ ckA 2 4 = true ∧ ckA 3 4 = true := by
  refine ⟨?_, ?_, ?_, ?_, ?_, ?_, ?_, ?_, ?_, ?_⟩ <;> decide +kernel
section
variable {t : Tl}
theorem ck_t (h : t.Ok) {i : Nat} (hi : i < 4) {v m : Int} (v0 : 0 ≤ v) (v4 : v ≤ 4) (hm : m = 0 ∨ m = -1) : ck t.k.sum t.r t.s i v m = true := by
  obtain ⟨c1, c2, c3, c4, c5, c6, c7, c8, c9, c10⟩ := ck_all
  have z := pairs h (fun r s => ckA r s = true) c1 c2 c3 c4 c5 c6 c7 c8 c9 c10
  unfold ckA at z
  simp only [List.all_eq_true] at z
  refine z _ ?_ _ ?_ _ ?_ _ ?_
  · have := h.l
    simp only [List.mem_cons, List.not_mem_nil, or_false]
    exact this
  · simp only [List.mem_cons, List.not_mem_nil, or_false]
    omega
  · simp only [List.mem_cons, List.not_mem_nil, or_false]
    omega
  · simp only [List.mem_cons, List.not_mem_nil, or_false]
    exact hm
/-- the tile over an edge: in either order the same -/
theorem far_fit (h : t.Ok) {i : Nat} (hi : i < 4) {v m : Int} (v0 : 0 ≤ v) (v4 : v ≤ 4) (hm : m = 0 ∨ m = -1) (hv : v ≠ (t.E i).2) (hl : (farT (t.E i) v m).k.sum = 1 ∨ (farT (t.E i) v m).k.sum = 2) :
    (farT (t.E i) v m = t → fit t t = false) ∧ (farT (t.E i) v m ≠ t → fit (farT (t.E i) v m) t = fit t (farT (t.E i) v m)) := by
  have c := ck_t h hi v0 v4 hm
  have e : t = sh t.k ⟨z0, t.r, t.s⟩ := sh_z.symm
  generalize hk : t.k = k at *
  generalize hr : t.r = r at *
  generalize hs : t.s = s at *
  rw [e] at hl hv ⊢
  rw [E_sh] at hl hv ⊢
  rw [far_sh] at hl ⊢
  rw [fit_sh, fit_sh, fit_sh, Ne, sh_inj]
  have hl' : k.sum + (farT ((⟨z0, r, s⟩ : Tl).E i) v m).k.sum = 1 ∨ k.sum + (farT ((⟨z0, r, s⟩ : Tl).E i) v m).k.sum = 2 := by
    have z : (sh k (farT ((⟨z0, r, s⟩ : Tl).E i) v m)).k.sum = k.sum + (farT ((⟨z0, r, s⟩ : Tl).E i) v m).k.sum := sum_add
    rw [z] at hl
    exact hl
  unfold ck at c
  dsimp only at c
  rw [if_neg (show v ≠ ((⟨z0, r, s⟩ : Tl).E i).2 from hv), if_pos hl'] at c
  constructor
  · intro q
    rw [if_pos q] at c
    simpa using c
  · intro q
    rw [if_neg q] at c
    simpa using c
theorem far_ok (h : t.Ok) {i : Nat} {v m : Int} (v0 : 0 ≤ v) (v4 : v ≤ 4) (hv : v ≠ (t.E i).2) (hl : (farT (t.E i) v m).k.sum = 1 ∨ (farT (t.E i) v m).k.sum = 2) : (farT (t.E i) v m).Ok := by
  obtain ⟨j0, j4⟩ := E_rng h i
  refine ⟨hl, ?_, ?_, ?_⟩
  · show 0 ≤ lo _ _
    unfold lo
    split <;> omega
  · show lo _ _ < K16.hi _ _
    unfold lo K16.hi
    split <;> split <;> omega
  · show K16.hi _ _ ≤ 4
    unfold K16.hi
    split <;> omega
end
end K16
set_option Elab.async false
set_option linter.all false
set_option maxHeartbeats 1000000
set_option maxRecDepth 100000
namespace K16
open PySem PySem.Spec L2 DL
variable {ξ : XT} {Q : D → Prop}
theorem e_same {d : D} (hs : showR d) (h : Q (.bl true)) : tf__law_same ξ [d, d] Q := by
  refine ⟨hs, hs, ?_⟩
  show Q (.bl (decide (_ = _)))
  rw [decide_eq_true rfl]
  exact h
theorem e_same' {d e : D} (he : e = d) (hs : showR d) (h : Q (.bl true)) : tf__law_same ξ [e, d] Q := by
  subst he
  exact e_same hs h
theorem two_bl {a b : Bool} : showR (.tup [.bl a, .bl b]) := (gd_tup (n := 2) (w := 100) (k := 0) (ds := [.bl a, .bl b]) (by
    simp only [List.mem_cons, List.not_mem_nil, or_false, forall_eq_or_imp, forall_eq]
    exact ⟨gd_bl a, gd_bl b⟩) (Nat.le_refl 2)).show (by decide) (by decide)
theorem eqv_T (x y : Tl) : PyData.eqv (toP x.D) (toP y.D) = decide (x = y) := by
  obtain ⟨⟨a, b, c, d, e⟩, r, s⟩ := x
  obtain ⟨⟨a', b', c', d', e'⟩, r', s'⟩ := y
  rw [Bool.eq_iff_iff]
  simp [Tl.D, R5.D, toP, toPs, PyData.eqv, PyData.eqvAll, Tl.mk.injEq, R5.mk.injEq, and_assoc]
theorem eqOk_T (x : Tl) : eqOk x.D = true := by
  simp [eqOk, Tl.D, R5.D, DL.plain, plains, toP, toPs, SeqAt.shaped, PyData.canLay0, PyData.canLayAll0, PyData.depth, PyData.depthAll]
theorem neT {x y : Tl} (q : Q (.bl (!decide (x = y)))) : gNe x.D y.D Q := by
  show (eqOk x.D = true ∧ eqOk y.D = true) ∧ Q (.bl (!PyData.eqv (toP x.D) (toP y.D)))
  rw [eqv_T]
  exact ⟨⟨eqOk_T x, eqOk_T y⟩, q⟩
section
variable {t u : Tl} {De : DEnds} {ζ : XW} {s2 s3 s4 s5 s6 s7 s8 : Slot}
abbrev NF : TDS := (dSeq (dAsg (dAnd (dBin gNe (dVar 7) (dVar 0)) (dCall 2 tf__law_do_fit (dCons (dVar 0) (dCons (dVar 7) dNil)))) (dgName 8))
    (dIfS (dtNot (dTest (dCall 2 tf__law_same (dCons (dTup (dCons (dCallX 2 tf_does_fit (dCons (dVar 0) (dCons (dVar 7) dNil))) (dCons (dCallX 2 tf_does_fit (dCons (dVar 7) (dCons (dVar 0) dNil))) dNil))) (dCons (dTup (dCons (dVar 8) (dCons (dVar 8) dNil))) dNil)))))
    (dRet (dC (.bl false)))
    dNext))
theorem n_fit {s1 : Slot} (ht : t.Ok) (hu : u.Ok) (h1 : u = t → fit t t = false) (h2 : u ≠ t → fit u t = fit t u) (h : ∀ s8, De.nx [.d t.D, s1, s2, s3, s4, s5, s6, .d u.D, s8]) : NF ζ De [.d t.D, s1, s2, s3, s4, s5, s6, .d u.D, s8] := by
  by_cases e : u = t
  · subst e
    have f := h1 rfl
    have z : gNe u.D u.D (fun d => match d with | .bl b => (if b = true then (dCall 2 tf__law_do_fit (dCons (dVar 0) (dCons (dVar 7) dNil))) ζ [.d u.D, s1, s2, s3, s4, s5, s6, .d u.D, s8] (fun x => (dIfS (dtNot (dTest (dCall 2 tf__law_same (dCons (dTup (dCons (dCallX 2 tf_does_fit (dCons (dVar 0) (dCons (dVar 7) dNil))) (dCons (dCallX 2 tf_does_fit (dCons (dVar 7) (dCons (dVar 0) dNil))) dNil))) (dCons (dTup (dCons (dVar 8) (dCons (dVar 8) dNil))) dNil)))))
    (dRet (dC (.bl false)))
    dNext) ζ De [.d u.D, s1, s2, s3, s4, s5, s6, .d u.D, .d x]) else (dIfS (dtNot (dTest (dCall 2 tf__law_same (dCons (dTup (dCons (dCallX 2 tf_does_fit (dCons (dVar 0) (dCons (dVar 7) dNil))) (dCons (dCallX 2 tf_does_fit (dCons (dVar 7) (dCons (dVar 0) dNil))) dNil))) (dCons (dTup (dCons (dVar 8) (dCons (dVar 8) dNil))) dNil)))))
    (dRet (dC (.bl false)))
    dNext) ζ De [.d u.D, s1, s2, s3, s4, s5, s6, .d u.D, .d (.bl false)]) | _ => False) := by
      refine neT ?_
      rw [decide_eq_true rfl]
      refine ⟨rfl, e_fit hu hu ⟨rfl, e_fit hu hu ⟨szN 2, szN 2, rfl, ?_⟩⟩⟩
      rw [f]
      exact e_same two_bl (h _)
    exact z
  · have f := h2 e
    have z : gNe u.D t.D (fun d => match d with | .bl b => (if b = true then (dCall 2 tf__law_do_fit (dCons (dVar 0) (dCons (dVar 7) dNil))) ζ [.d t.D, s1, s2, s3, s4, s5, s6, .d u.D, s8] (fun x => (dIfS (dtNot (dTest (dCall 2 tf__law_same (dCons (dTup (dCons (dCallX 2 tf_does_fit (dCons (dVar 0) (dCons (dVar 7) dNil))) (dCons (dCallX 2 tf_does_fit (dCons (dVar 7) (dCons (dVar 0) dNil))) dNil))) (dCons (dTup (dCons (dVar 8) (dCons (dVar 8) dNil))) dNil)))))
    (dRet (dC (.bl false)))
    dNext) ζ De [.d t.D, s1, s2, s3, s4, s5, s6, .d u.D, .d x]) else (dIfS (dtNot (dTest (dCall 2 tf__law_same (dCons (dTup (dCons (dCallX 2 tf_does_fit (dCons (dVar 0) (dCons (dVar 7) dNil))) (dCons (dCallX 2 tf_does_fit (dCons (dVar 7) (dCons (dVar 0) dNil))) dNil))) (dCons (dTup (dCons (dVar 8) (dCons (dVar 8) dNil))) dNil)))))
    (dRet (dC (.bl false)))
    dNext) ζ De [.d t.D, s1, s2, s3, s4, s5, s6, .d u.D, .d (.bl false)]) | _ => False) := by
      refine neT ?_
      rw [decide_eq_false e]
      refine ⟨rfl, e_lfit ht hu ⟨rfl, e_fit ht hu ⟨rfl, e_fit hu ht ⟨szN 2, szN 2, rfl, ?_⟩⟩⟩⟩
      rw [f]
      exact e_same two_bl (h _)
    exact z
abbrev NB : TDS := (dSeq (dAsg (dCall 3 tf__law_step (dCons (dBin gIx (dVar 1) (dC (.int 0))) (dCons (dVar 4) (dCons (dVar 5) dNil)))) (dgName 6))
    (dIfS (dTest (dBin (gIn false) (dCB gSum (dCons (dVar 6) dNil)) (dTup (dCons (dC (.int 1)) (dCons (dC (.int 2)) dNil)))))
    (dSeq (dAsg (dTup (dCons (dVar 6) (dCons (dCB gMin2 (dCons (dBin gIx (dVar 1) (dC (.int 1))) (dCons (dVar 4) dNil))) (dCons (dCB gMax2 (dCons (dBin gIx (dVar 1) (dC (.int 1))) (dCons (dVar 4) dNil))) dNil)))) (dgName 7)) NF)
    dNext))
theorem n_body (ht : t.Ok) {i : Nat} (hi : i < 4) {v m : Int} (v0 : 0 ≤ v) (v4 : v ≤ 4) (hm : m = 0 ∨ m = -1) (hv : v ≠ (t.E i).2) (h : ∀ s6 s7 s8, De.nx [.d t.D, .d (eD (t.E i)), s2, s3, .d (.int v), .d (.int m), s6, s7, s8]) :
    NB ζ De [.d t.D, .d (eD (t.E i)), s2, s3, .d (.int v), .d (.int m), s6, s7, s8] := by
  refine ⟨rfl, e_lstep v0 v4 ⟨szN 2, ?_⟩⟩
  show (if inV (.int ((t.E i).1.up v m).sum) [.int 1, .int 2] = true then _ else _)
  cases hl : inV (.int ((t.E i).1.up v m).sum) [.int 1, .int 2] with
  | false => exact h _ _ _
  | true =>
    rw [in2, Bool.and_eq_true, decide_eq_true_eq, decide_eq_true_eq] at hl
    have hl' : (farT (t.E i) v m).k.sum = 1 ∨ (farT (t.E i) v m).k.sum = 2 := by
      show ((t.E i).1.up v m).sum = 1 ∨ ((t.E i).1.up v m).sum = 2
      omega
    obtain ⟨f1, f2⟩ := far_fit ht hi v0 v4 hm hv hl'
    exact ⟨szN 3, n_fit (u := farT (t.E i) v m) ht (far_ok ht v0 v4 hv hl') f1 f2 fun s8 => h _ _ _⟩
end
end K16
set_option Elab.async false
set_option linter.all false
set_option maxHeartbeats 1000000
set_option maxRecDepth 100000
namespace K16
open PySem PySem.Spec L2 DL
variable {ξ : XT} {Q : D → Prop}
def plc (r s : Int) : Bool := [0, 1, 2, 3].all fun i => pl ⟨z0, r, s⟩ ((⟨z0, r, s⟩ : Tl).E i) == some i
theorem pl_self {t : Tl} (h : t.Ok) {i : Nat} (hi : i < 4) : pl t (t.E i) = some i := by
  have z := pairs h (fun r s => plc r s = true) (by decide +kernel) (by decide +kernel) (by decide +kernel) (by decide +kernel) (by decide +kernel) (by decide +kernel) (by decide +kernel) (by decide +kernel) (by decide +kernel) (by decide +kernel)
  have e : t = sh t.k ⟨z0, t.r, t.s⟩ := sh_z.symm
  generalize t.k = k at *
  generalize t.r = r at *
  generalize t.s = s at *
  rw [e, E_sh, pl_sh]
  unfold plc at z
  rw [List.all_eq_true] at z
  have z := z i (by simp only [List.mem_cons, List.not_mem_nil, or_false]; omega)
  simpa using z
theorem e_isleft {t : Tl} {x : D} (h : t.Ok) (v : Pd x) (q1 : plX t x = none → ξ ⟨"BadEdge", [("thing", x)]⟩) (q2 : ∀ i, plX t x = some i → i < 4 → Q (.bl (lfB t.r t.s i))) : tf_is_left ξ [t.D, x] Q := by
  refine ⟨rfl, e_needT (pd_T t) (need h) fun _ => ?_⟩
  refine ⟨rfl, e_place h v ?_⟩
  cases hp : plX t x with
  | none => exact q1 hp
  | some i =>
    have hi : i < 4 := by
      unfold plX at hp
      split at hp
      · exact pl_lt hp
      · cases hp
    exact ⟨rfl, e_left hi (q2 i hp hi)⟩
section
variable {t : Tl} {De : DEnds} {ζ : XW} {s1 s2 s3 s4 s5 s6 s7 s8 : Slot}
theorem e_isleftE (h : t.Ok) {i : Nat} (hi : i < 4) (q : Q (.bl (lfB t.r t.s i))) : tf_is_left ξ [t.D, eD (t.E i)] Q := by
  have e : plX t (eD (t.E i)) = some i := by rw [plX_E h, pl_self h hi]
  refine e_isleft h (pd_E _) (fun z => ?_) fun j z hj => ?_
  · rw [e] at z; cases z
  · rw [e] at z; cases z; exact q
theorem lc_ne {x : Ed} : ∀ {xs : List Int} {Q' : List D → Prop}, Q' ((xs.filter fun v => !decide (v = x.2)).map D.int) → lcD (dgName 4) (dTest (dBin gNe (dVar 4) (dBin gIx (dVar 1) (dC (.int 1))))) (dVar 4) [.d t.D, .d (eD x), s2, s3, .un, s5, s6, s7, s8] (xs.map D.int) Q'
  | [], _, q => q
  | v :: xs, Q', q => by
    show (if (!decide (v = x.2)) = true then lcD _ _ _ _ (xs.map D.int) (fun ys => Q' (.int v :: ys)) else lcD _ _ _ _ (xs.map D.int) Q')
    cases hb : !decide (v = x.2) with
    | true =>
      rw [List.filter_cons_of_pos (by rw [hb])] at q
      exact lc_ne (Q' := fun ys => Q' (.int v :: ys)) q
    | false =>
      rw [List.filter_cons_of_neg (by rw [hb]; decide)] at q
      exact lc_ne q
abbrev NM : TDS := (dForT (dTup (dCons (dC (.int 0)) (dCons (dUn gNeg (dC (.int 1))) dNil))) (dgName 5) NB)
theorem n_two (ht : t.Ok) {i : Nat} (hi : i < 4) {v : Int} (v0 : 0 ≤ v) (v4 : v ≤ 4) (hv : v ≠ (t.E i).2) (h : ∀ s5 s6 s7 s8, De.nx [.d t.D, .d (eD (t.E i)), s2, s3, .d (.int v), s5, s6, s7, s8]) :
    NM ζ De [.d t.D, .d (eD (t.E i)), s2, s3, .d (.int v), s5, s6, s7, s8] := by
  refine ⟨szN 2, ?_⟩
  refine n_body (De := { De with nx := forD (dgName 5) NB ζ De [.int (-1)], ct := forD (dgName 5) NB ζ De [.int (-1)], bk := De.nx }) ht hi v0 v4 (.inl rfl) hv fun s6 s7 s8 => ?_
  refine n_body (De := { De with nx := forD (dgName 5) NB ζ De [], ct := forD (dgName 5) NB ζ De [], bk := De.nx }) ht hi v0 v4 (.inr rfl) hv fun s6 s7 s8 => ?_
  exact h _ _ _ _
theorem n_all (ht : t.Ok) {i : Nat} (hi : i < 4) : ∀ {vs : List Int} {De : DEnds} {s4 s5 s6 s7 s8 : Slot}, (∀ v ∈ vs, 0 ≤ v ∧ v ≤ 4 ∧ v ≠ (t.E i).2) → (∀ s4 s5 s6 s7 s8, De.nx [.d t.D, .d (eD (t.E i)), s2, s3, s4, s5, s6, s7, s8]) → forD (dgName 4) NM ζ De (vs.map D.int) [.d t.D, .d (eD (t.E i)), s2, s3, s4, s5, s6, s7, s8]
  | [], De, s4, s5, s6, s7, s8, _, h => h _ _ _ _ _
  | v :: vs, De, s4, s5, s6, s7, s8, hv, h => by
    obtain ⟨v0, v4, vn⟩ := hv v List.mem_cons_self
    exact n_two (De := { De with nx := forD (dgName 4) NM ζ De (vs.map D.int), ct := forD (dgName 4) NM ζ De (vs.map D.int), bk := De.nx }) ht hi v0 v4 vn fun s5 s6 s7 s8 => n_all ht hi (fun w m => hv w (List.mem_cons_of_mem _ m)) h
abbrev NE : TDS := (dSeq (dIfS (dtNot (dTest (dCall 2 tf__law_same (dCons (dCallX 2 tf_is_left (dCons (dVar 0) (dCons (dVar 1) dNil))) (dCons (dCall 3 tf__law_is_lefthand (dCons (dBin gIx (dVar 1) (dC (.int 1))) (dCons (dVar 2) (dCons (dVar 3) dNil)))) dNil)))))
    (dRet (dC (.bl false)))
    dNext)
    (dFor (dLcR (dCons (dC (.int 5)) dNil) 4 (dTest (dBin gNe (dVar 4) (dBin gIx (dVar 1) (dC (.int 1))))) (dVar 4)) (dgName 4) NM))
theorem sz5 : (5 : Int) ≤ (sizeLine : Nat) := by rw [sizeLine_eq]; decide
theorem n_edge (ht : t.Ok) {i : Nat} (hi : i < 4) (h : ∀ s4 s5 s6 s7 s8, De.nx [.d t.D, .d (eD (t.E i)), .d (.int (bsd t i)), .d (.int (upn i)), s4, s5, s6, s7, s8]) :
    NE ζ De [.d t.D, .d (eD (t.E i)), .d (.int (bsd t i)), .d (.int (upn i)), s4, s5, s6, s7, s8] := by
  refine ⟨rfl, e_isleftE ht hi ⟨rfl, e_lhE ht hi ⟨rfl, e_same ((gd_bl _).show (by decide) (by decide)) ?_⟩⟩⟩
  refine ⟨⟨by decide, sz5⟩, ?_⟩
  refine lc_ne (xs := [0, 1, 2, 3, 4]) (Q' := fun ys => forD (dgName 4) NM ζ De ys [.d t.D, .d (eD (t.E i)), .d (.int (bsd t i)), .d (.int (upn i)), s4, s5, s6, s7, s8]) ?_
  refine n_all ht hi (fun v m => ?_) h
  rw [List.mem_filter] at m
  obtain ⟨m1, m2⟩ := m
  simp only [List.mem_cons, List.not_mem_nil, or_false] at m1
  refine ⟨by omega, by omega, ?_⟩
  simpa using m2
abbrev NG : TDG := dgTup 3 (dgCons (dgName 1) (dgCons (dgName 2) (dgCons (dgName 3) dgNil)))
theorem n_loop (ht : t.Ok) {i : Nat} (hi : i < 4) {xs : List D} (h : ∀ s1 s2 s3 s4 s5 s6 s7 s8, forD NG NE ζ De xs [.d t.D, s1, s2, s3, s4, s5, s6, s7, s8]) : forD NG NE ζ De (bo t i :: xs) [.d t.D, s1, s2, s3, s4, s5, s6, s7, s8] :=
  ⟨rfl, n_edge (De := { De with nx := forD NG NE ζ De xs, ct := forD NG NE ζ De xs, bk := De.nx }) ht hi fun _ _ _ _ _ => h _ _ _ _ _ _ _ _⟩
end
theorem e_neigh {t : Tl} (ht : t.Ok) (q : Q (.bl true)) : tf__law_are_neighbours_right ξ [t.D] Q := by
  refine ⟨rfl, e_borders ht ?_⟩
  have fin : ∀ {De : DEnds} {ζ : XW} {s1 s2 s3 s4 s5 s6 s7 s8 : Slot}, (∀ s1 s2 s3 s4 s5 s6 s7 s8, De.nx [.d t.D, s1, s2, s3, s4, s5, s6, s7, s8]) → forD NG NE ζ De [bo t 0, bo t 1, bo t 2, bo t 3] [.d t.D, s1, s2, s3, s4, s5, s6, s7, s8] := by
    intro De ζ s1 s2 s3 s4 s5 s6 s7 s8 n
    refine n_loop ht (by decide) fun _ _ _ _ _ _ _ _ => ?_
    refine n_loop ht (by decide) fun _ _ _ _ _ _ _ _ => ?_
    refine n_loop ht (by decide) fun _ _ _ _ _ _ _ _ => ?_
    exact n_loop ht (by decide) fun _ _ _ _ _ _ _ _ => n _ _ _ _ _ _ _ _
  exact fin fun _ _ _ _ _ _ _ _ => q
end K16
set_option Elab.async false
set_option linter.all false
set_option maxHeartbeats 1000000
set_option maxRecDepth 100000
/-! ### what is shown tells what it is -/
namespace K16
open PySem PySem.Spec L2 DL
theorem rep_nat {m n : Nat} (h : Nat.toDigits 10 m = Nat.toDigits 10 n) : m = n := by
  have a := Nat.ofDigitChars_toDigits (b := 10) (n := m) (by decide) (by decide)
  have b := Nat.ofDigitChars_toDigits (b := 10) (n := n) (by decide) (by decide)
  rw [h] at a
  omega
theorem rep_list (m : Nat) : (Nat.repr m).toList = Nat.toDigits 10 m := by
  unfold Nat.repr
  simp
theorem int_list (i : Int) : (toString i : String).toList = if 0 ≤ i then Nat.toDigits 10 i.natAbs else '-' :: Nat.toDigits 10 i.natAbs := by
  cases i with
  | ofNat m =>
    rw [if_pos (show 0 ≤ Int.ofNat m from Int.natCast_nonneg m)]
    show (Nat.repr m).toList = _
    rw [rep_list]; rfl
  | negSucc m =>
    rw [if_neg (by omega)]
    show ("-" ++ Nat.repr (m + 1)).toList = _
    rw [String.toList_append, rep_list]; rfl
theorem minus_not (m : Nat) : '-' ∉ Nat.toDigits 10 m := fun h => by
  have := Nat.isDigit_of_mem_toDigits (by decide) (by decide) h
  exact absurd this (by decide)
theorem int_inj {i j : Int} (h : (toString i : String).toList = (toString j : String).toList) : i = j := by
  rw [int_list, int_list] at h
  by_cases hi : 0 ≤ i <;> by_cases hj : 0 ≤ j
  · rw [if_pos hi, if_pos hj] at h
    have := rep_nat h
    omega
  · rw [if_pos hi, if_neg hj] at h
    exact absurd (h ▸ List.mem_cons_self : '-' ∈ Nat.toDigits 10 i.natAbs) (minus_not _)
  · rw [if_neg hi, if_pos hj] at h
    exact absurd (h.symm ▸ List.mem_cons_self : '-' ∈ Nat.toDigits 10 j.natAbs) (minus_not _)
  · rw [if_neg hi, if_neg hj] at h
    have := rep_nat (List.cons.inj h).2
    omega
def cs (x : Str) : List Nat := x.cps.toList
theorem cs_app (x y : Str) : cs (x ++ y) = cs x ++ cs y := by
  show (x.cps ++ y.cps).toList = _
  exact Array.toList_append
abbrev L (d : D) : List Nat := cs (toP d).shown
def dg (i : Int) : List Nat := (toString i : String).toList.map Char.toNat
theorem L_int (i : Int) : L (.int i) = dg i := by
  show (Str.ofString (toString i)).cps.toList = _
  rw [Str.ofString_eq_toList]
  rfl
theorem char_inj {a b : Char} (h : a.toNat = b.toNat) : a = b := Char.toNat_inj.mp h
theorem map_inj : ∀ {xs ys : List Char}, xs.map Char.toNat = ys.map Char.toNat → xs = ys
  | [], [], _ => rfl
  | [], _ :: _, h => by cases h
  | _ :: _, [], h => by cases h
  | x :: xs, y :: ys, h => by
    obtain ⟨h1, h2⟩ := List.cons.inj h
    rw [char_inj h1, map_inj h2]
theorem dg_inj {i j : Int} (h : dg i = dg j) : i = j := int_inj (map_inj h)
/-- signs of an int -/
def sgn (c : Nat) : Bool := c == 45 || (decide (48 ≤ c) && decide (c ≤ 57))
theorem dig_sgn {c : Char} (h : c.isDigit = true) : sgn c.toNat = true := by
  have h : (decide (48 ≤ c.val) && decide (c.val ≤ 57)) = true := h
  simp only [Bool.and_eq_true, decide_eq_true_eq] at h
  have h1 : 48 ≤ c.val.toNat := h.1
  have h2 : c.val.toNat ≤ 57 := h.2
  show (c.val.toNat == 45 || (decide (48 ≤ c.val.toNat) && decide (c.val.toNat ≤ 57))) = true
  rw [decide_eq_true h1, decide_eq_true h2]
  simp
theorem dg_sgn {i : Int} : ∀ c ∈ dg i, sgn c = true := by
  intro c m
  obtain ⟨x, hx, rfl⟩ := List.mem_map.mp m
  rw [int_list] at hx
  split at hx
  · exact dig_sgn (Nat.isDigit_of_mem_toDigits (by decide) (by decide) hx)
  · rcases List.mem_cons.mp hx with rfl | hx
    · decide
    · exact dig_sgn (Nat.isDigit_of_mem_toDigits (by decide) (by decide) hx)
theorem dg_ne {i : Int} : dg i ≠ [] := by
  intro h
  have : (toString i : String).toList = [] := List.map_eq_nil_iff.mp h
  rw [int_list] at this
  split at this
  · exact Nat.toDigits_ne_nil this
  · cases this
/-- the first sign -/
theorem hd_dg {i : Int} {r : List Nat} : ∃ c t, dg i ++ r = c :: t ∧ sgn c = true := by
  cases e : dg i with
  | nil => exact absurd e dg_ne
  | cons c t => exact ⟨c, t ++ r, rfl, dg_sgn c (by rw [e]; exact List.mem_cons_self)⟩
theorem munch : ∀ {xs ys r r' : List Nat}, (∀ c ∈ xs, sgn c = true) → (∀ c ∈ ys, sgn c = true) → (∀ c t, r = c :: t → sgn c = false) → (∀ c t, r' = c :: t → sgn c = false) → xs ++ r = ys ++ r' → xs = ys ∧ r = r'
  | [], [], _, _, _, _, _, _, h => ⟨rfl, h⟩
  | [], y :: ys, r, r', _, hy, hr, _, h => by
    have := hr y (ys ++ r') (by simpa using h)
    rw [hy y List.mem_cons_self] at this
    cases this
  | x :: xs, [], r, r', hx, _, _, hr', h => by
    have := hr' x (xs ++ r) (by simpa using h.symm)
    rw [hx x List.mem_cons_self] at this
    cases this
  | x :: xs, y :: ys, r, r', hx, hy, hr, hr', h => by
    obtain ⟨h1, h2⟩ := List.cons.inj (show x :: (xs ++ r) = y :: (ys ++ r') from h)
    obtain ⟨h3, h4⟩ := munch (fun c m => hx c (List.mem_cons_of_mem _ m)) (fun c m => hy c (List.mem_cons_of_mem _ m)) hr hr' h2
    exact ⟨by rw [h1, h3], h4⟩
theorem from_pre : ∀ (ts : List Str) (k : Nat) (acc : Str), ∃ r, cs (textFrom k acc ts) = cs acc ++ r
  | [], _, _ => ⟨[], by rw [List.append_nil]; rfl⟩
  | t :: ts, k, acc => by
    obtain ⟨r, h⟩ := from_pre ts (k + 1) (acc ++ (if k > 0 then ", " else "" : String) ++ t)
    refine ⟨cs (if k > 0 then ", " else "" : String) ++ cs t ++ r, ?_⟩
    show cs (textFrom (k + 1) (acc ++ (if k > 0 then ", " else "" : String) ++ t) ts) = _
    rw [h, cs_app, cs_app]
    simp only [List.append_assoc]
/-- how a value begins -/
theorem heads {d : D} (p : plainR d = true) (n1 : ∀ i, d ≠ .int i) (n2 : ∀ ds, d ≠ .tup ds) : ∃ c t, L d = c :: t ∧ sgn c = false ∧ c ≠ 40 := by
  cases d with
  | non => exact ⟨78, _, rfl, by decide, by decide⟩
  | bl b => cases b <;> exact ⟨_, _, rfl, by decide, by decide⟩
  | int i => exact absurd rfl (n1 i)
  | tup ds => exact absurd rfl (n2 ds)
  | str x =>
    have e : ∃ t, L (.str x) = reprQuote x :: t := by
      have key : ∀ (l : List Nat) (acc : Array Nat), ∃ t, (l.foldl (fun out c => out ++ (Builtin.Str.reprChar (reprQuote x) c).toArray) acc).toList = acc.toList ++ t := by
        intro l
        induction l with
        | nil => intro acc; exact ⟨[], by simp⟩
        | cons a l ih =>
          intro acc
          obtain ⟨t, h⟩ := ih (acc ++ (Builtin.Str.reprChar (reprQuote x) a).toArray)
          exact ⟨_, by rw [List.foldl_cons, h, Array.toList_append, List.append_assoc]⟩
      obtain ⟨t, h⟩ := key x.cps.toList #[reprQuote x]
      refine ⟨t ++ [reprQuote x], ?_⟩
      show ((x.cps.foldl (fun out c => out ++ (Builtin.Str.reprChar (reprQuote x) c).toArray) #[reprQuote x]).push (reprQuote x)).toList = _
      rw [← Array.foldl_toList, Array.toList_push, h]
      rfl
    obtain ⟨t, e⟩ := e
    refine ⟨_, t, e, ?_, ?_⟩
    · unfold reprQuote; split <;> decide
    · unfold reprQuote; split <;> decide
  | lst ds =>
    obtain ⟨r, h⟩ := from_pre (PyData.shownAll (toPs ds)) 0 "["
    refine ⟨91, r ++ cs "]", ?_, by decide, by decide⟩
    show cs (textFrom 0 "[" (PyData.shownAll (toPs ds)) ++ "]") = _
    rw [cs_app, h]
    rfl
  | dct ks ds =>
    refine ⟨123, cs (Str.join ", " (PyData.shownKv (toPk ks ds))) ++ cs "}", ?_, by decide, by decide⟩
    show cs (("{" : Str) ++ Str.join ", " (PyData.shownKv (toPk ks ds)) ++ "}") = _
    rw [cs_app, cs_app]
    rfl
  | deck => cases p
  | ty n => cases p
  | kt n => cases p
/-- behind the first part of a tuple of two or more -/
def M : List D → List Nat
  | [] => [41]
  | d :: ds => 44 :: 32 :: (L d ++ M ds)
theorem cs_join : ∀ (d : D) (ds : List D), cs (Str.join ", " (PyData.shownAll (toPs (d :: ds)))) ++ [41] = L d ++ M ds
  | d, [] => rfl
  | d, e :: ds => by
    show cs ((toP d).shown ++ ", " ++ Str.join ", " (PyData.shownAll (toPs (e :: ds)))) ++ [41] = _
    rw [cs_app, cs_app, List.append_assoc, cs_join e ds, List.append_assoc]
    rfl
theorem shownAll_len : ∀ ds : List D, (PyData.shownAll (toPs ds)).length = ds.length
  | [] => rfl
  | d :: ds => by
    show (PyData.shownAll (toPs ds)).length + 1 = _
    rw [shownAll_len ds]; rfl
theorem L_nil : L (.tup []) = [40, 41] := rfl
theorem L_one (d : D) : L (.tup [d]) = 40 :: (L d ++ [44, 41]) := by
  show cs (("(" : Str) ++ (toP d).shown ++ ",)") = _
  rw [cs_app, cs_app]
  rfl
theorem L_two (d e : D) (ds : List D) : L (.tup (d :: e :: ds)) = 40 :: (L d ++ M (e :: ds)) := by
  have l : ((PyData.shownAll (toPs (d :: e :: ds))).length == 1) = false := by
    rw [shownAll_len]
    simp
  show cs (("(" : Str) ++ Str.join ", " (PyData.shownAll (toPs (d :: e :: ds))) ++ (if (PyData.shownAll (toPs (d :: e :: ds))).length == 1 then ",)" else ")" : String)) = _
  rw [l, cs_app, cs_app]
  show cs "(" ++ cs (Str.join ", " (PyData.shownAll (toPs (d :: e :: ds)))) ++ [41] = _
  rw [List.append_assoc, cs_join]
  rfl
theorem M_hd {ds : List D} {r : List Nat} : ∀ c t, M ds ++ r = c :: t → sgn c = false := by
  intro c t h
  cases ds with
  | nil =>
    obtain ⟨h1, _⟩ := List.cons.inj (show 41 :: r = c :: t from h)
    subst h1
    decide
  | cons d ds =>
    obtain ⟨h1, _⟩ := List.cons.inj (show 44 :: (32 :: (L d ++ M ds) ++ r) = c :: t from h)
    subst h1
    decide
theorem cut_int {d : D} {i : Int} {r r' : List Nat} (p : plainR d = true) (hr : ∀ c t, r = c :: t → sgn c = false) (hr' : ∀ c t, r' = c :: t → sgn c = false) (h : L d ++ r = dg i ++ r') : d = .int i ∧ r = r' := by
  obtain ⟨c, t, e, s⟩ := hd_dg (i := i) (r := r')
  by_cases n1 : ∃ j, d = .int j
  · obtain ⟨j, rfl⟩ := n1
    rw [L_int] at h
    obtain ⟨h1, h2⟩ := munch dg_sgn dg_sgn hr hr' h
    exact ⟨by rw [dg_inj h1], h2⟩
  · by_cases n2 : ∃ ds, d = .tup ds
    · obtain ⟨ds, rfl⟩ := n2
      rw [e] at h
      have z : ∃ t', L (.tup ds) = 40 :: t' := by
        match ds with
        | [] => exact ⟨_, rfl⟩
        | [a] => exact ⟨_, L_one a⟩
        | a :: b :: l => exact ⟨_, L_two a b l⟩
      obtain ⟨t', z⟩ := z
      rw [z] at h
      obtain ⟨h1, _⟩ := List.cons.inj (show 40 :: (t' ++ r) = c :: t from h)
      subst h1
      cases s
    · obtain ⟨c', t', e', s', _⟩ := heads p (fun j z => n1 ⟨j, z⟩) (fun ds z => n2 ⟨ds, z⟩)
      rw [e, e'] at h
      obtain ⟨h1, _⟩ := List.cons.inj (show c' :: (t' ++ r) = c :: t from h)
      subst h1
      rw [s] at s'
      cases s'
theorem cut_ints : ∀ {ds : List D} {is : List Int} {r r' : List Nat}, plainRs ds = true → M ds ++ r = M (is.map D.int) ++ r' → ds = is.map D.int ∧ r = r'
  | [], [], _, _, _, h => ⟨rfl, (List.cons.inj h).2⟩
  | [], i :: is, r, r', _, h => by
    obtain ⟨h1, _⟩ := List.cons.inj (show 41 :: r = 44 :: (32 :: (L (.int i) ++ M (is.map D.int)) ++ r') from h)
    cases h1
  | d :: ds, [], r, r', _, h => by
    obtain ⟨h1, _⟩ := List.cons.inj (show 44 :: (32 :: (L d ++ M ds) ++ r) = 41 :: r' from h)
    cases h1
  | d :: ds, i :: is, r, r', p, h => by
    obtain ⟨p1, p2⟩ := Bool.and_eq_true_iff.mp (show (plainR d && plainRs ds) = true from p)
    obtain ⟨_, h⟩ := List.cons.inj (show 44 :: (32 :: ((L d ++ M ds) ++ r)) = 44 :: (32 :: ((L (.int i) ++ M (is.map D.int)) ++ r')) from h)
    obtain ⟨_, h⟩ := List.cons.inj h
    rw [List.append_assoc, List.append_assoc, L_int] at h
    obtain ⟨e1, e2⟩ := cut_int p1 M_hd M_hd h
    obtain ⟨e3, e4⟩ := cut_ints p2 e2
    exact ⟨by rw [e1, e3]; rfl, e4⟩
/-- a tuple whose first part begins so -/
theorem tup_of {d : D} {r t : List Nat} (p : plainR d = true) (h : L d ++ r = 40 :: t) : ∃ ds, d = .tup ds := by
  by_cases n2 : ∃ ds, d = .tup ds
  · exact n2
  · by_cases n1 : ∃ j, d = .int j
    · obtain ⟨j, rfl⟩ := n1
      rw [L_int] at h
      obtain ⟨c, t', e, s⟩ := hd_dg (i := j) (r := r)
      rw [e] at h
      obtain ⟨h1, _⟩ := List.cons.inj h
      subst h1
      cases s
    · obtain ⟨c', t', e', _, s'⟩ := heads p (fun j z => n1 ⟨j, z⟩) (fun ds z => n2 ⟨ds, z⟩)
      rw [e'] at h
      obtain ⟨h1, _⟩ := List.cons.inj (show c' :: (t' ++ r) = 40 :: t from h)
      exact absurd h1 s'
theorem cut_row {d : D} {k : R5} {r r' : List Nat} (p : plainR d = true) (h : L d ++ r = L k.D ++ r') : d = k.D ∧ r = r' := by
  have e : L k.D = 40 :: (dg k.a ++ M [.int k.b, .int k.c, .int k.d, .int k.e]) := by rw [← L_int]; exact L_two _ _ _
  rw [e] at h
  obtain ⟨ds, rfl⟩ := tup_of p (show L d ++ r = 40 :: (dg k.a ++ M [.int k.b, .int k.c, .int k.d, .int k.e] ++ r') from h)
  have p : plainRs ds = true := p
  match ds, p with
  | [], p =>
    rw [L_nil] at h
    obtain ⟨_, h⟩ := List.cons.inj (show 40 :: (41 :: r) = 40 :: (dg k.a ++ M [.int k.b, .int k.c, .int k.d, .int k.e] ++ r') from h)
    obtain ⟨c, t, e2, s⟩ := hd_dg (i := k.a) (r := M [.int k.b, .int k.c, .int k.d, .int k.e] ++ r')
    rw [List.append_assoc, e2] at h
    obtain ⟨h1, _⟩ := List.cons.inj h
    subst h1
    cases s
  | [a], p =>
    rw [L_one] at h
    obtain ⟨p1, _⟩ := Bool.and_eq_true_iff.mp (show (plainR a && true) = true from p)
    obtain ⟨_, h⟩ := List.cons.inj (show 40 :: ((L a ++ [44, 41]) ++ r) = 40 :: (dg k.a ++ M [.int k.b, .int k.c, .int k.d, .int k.e] ++ r') from h)
    rw [List.append_assoc, List.append_assoc] at h
    obtain ⟨_, e2⟩ := cut_int p1 (fun c t z => by obtain ⟨z1, _⟩ := List.cons.inj (show 44 :: (41 :: r) = c :: t from z); subst z1; decide) M_hd h
    obtain ⟨_, e2⟩ := List.cons.inj (show 44 :: (41 :: r) = 44 :: (32 :: ((L (.int k.b) ++ M [.int k.c, .int k.d, .int k.e]) ++ r')) from e2)
    obtain ⟨z, _⟩ := List.cons.inj e2
    cases z
  | a :: b :: l, p =>
    rw [L_two] at h
    obtain ⟨p1, p2⟩ := Bool.and_eq_true_iff.mp (show (plainR a && plainRs (b :: l)) = true from p)
    obtain ⟨_, h⟩ := List.cons.inj (show 40 :: ((L a ++ M (b :: l)) ++ r) = 40 :: (dg k.a ++ M [.int k.b, .int k.c, .int k.d, .int k.e] ++ r') from h)
    rw [List.append_assoc, List.append_assoc] at h
    obtain ⟨e1, e2⟩ := cut_int p1 M_hd M_hd h
    obtain ⟨e3, e4⟩ := cut_ints (is := [k.b, k.c, k.d, k.e]) p2 e2
    rw [e1, e3]
    exact ⟨rfl, e4⟩
theorem cut_edge {d : D} {x : Ed} (p : plainR d = true) (h : L d = L (eD x)) : d = eD x := by
  have e : L (eD x) = 40 :: (L x.1.D ++ M [.int x.2]) := L_two _ _ _
  rw [e] at h
  obtain ⟨ds, rfl⟩ := tup_of (r := []) p (by rw [List.append_nil]; exact h)
  have p : plainRs ds = true := p
  match ds, p with
  | [], p =>
    rw [L_nil] at h
    obtain ⟨_, h⟩ := List.cons.inj h
    have e2 : L x.1.D = 40 :: (dg x.1.a ++ M [.int x.1.b, .int x.1.c, .int x.1.d, .int x.1.e]) := by rw [← L_int]; exact L_two _ _ _
    rw [e2] at h
    obtain ⟨z, _⟩ := List.cons.inj h
    cases z
  | [a], p =>
    rw [L_one] at h
    obtain ⟨p1, _⟩ := Bool.and_eq_true_iff.mp (show (plainR a && true) = true from p)
    obtain ⟨_, h⟩ := List.cons.inj h
    obtain ⟨_, e2⟩ := cut_row p1 h
    obtain ⟨_, e2⟩ := List.cons.inj (show 44 :: [41] = 44 :: (32 :: (L (.int x.2) ++ M [])) from e2)
    obtain ⟨z, _⟩ := List.cons.inj e2
    cases z
  | a :: b :: l, p =>
    rw [L_two] at h
    obtain ⟨p1, p2⟩ := Bool.and_eq_true_iff.mp (show (plainR a && plainRs (b :: l)) = true from p)
    obtain ⟨_, h⟩ := List.cons.inj h
    obtain ⟨e1, e2⟩ := cut_row p1 h
    obtain ⟨e3, _⟩ := cut_ints (is := [x.2]) (r := []) (r' := []) p2 (by rw [List.append_nil, List.append_nil]; exact e2)
    rw [e1, e3]
    rfl
end K16
set_option Elab.async false
set_option linter.all false
set_option maxHeartbeats 1000000
set_option maxRecDepth 100000
namespace K16
open PySem PySem.Spec L2 DL
variable {ξ : XT} {Q : D → Prop}
mutual
def bndb : D → Bool
  | .int i => decide (i.natAbs < 2 ^ 240)
  | .tup ds => bndbs ds
  | .lst ds => bndbs ds
  | _ => true
def bndbs : List D → Bool
  | [] => true
  | d :: ds => bndb d && bndbs ds
end
theorem bndbs_mem : ∀ {ds : List D}, bndbs ds = true → ∀ d ∈ ds, bndb d = true
  | [], _, _, m => by cases m
  | x :: ds, h, d, m => by
    obtain ⟨h1, h2⟩ := Bool.and_eq_true_iff.mp (show (bndb x && bndbs ds) = true from h)
    rcases List.mem_cons.mp m with rfl | m
    · exact h1
    · exact bndbs_mem h2 d m
theorem bndbs_of : ∀ {ds : List D}, (∀ d ∈ ds, bndb d = true) → bndbs ds = true
  | [], _ => rfl
  | x :: ds, h => by
    show (bndb x && bndbs ds) = true
    rw [h x List.mem_cons_self, bndbs_of fun d m => h d (List.mem_cons_of_mem _ m)]; rfl
/-- a value with its weight -/
structure Vd (w k : Nat) (d : D) : Prop where
  g : Gd w k d
  o : okb d = true
  b : bndb d = true
theorem Vd.mono {w k w' k' : Nat} {d : D} (v : Vd w k d) (h : w ≤ w' := by decide) (h' : k ≤ k' := by decide) : Vd w' k' d := ⟨v.g.mono h h', v.o, v.b⟩
theorem Vd.pd {w k : Nat} {d : D} (v : Vd w k d) : Pd d := ⟨v.g.pl, v.o⟩
theorem vd_int {i : Int} (h : Bd 240 i) : Vd 100 0 (.int i) := ⟨gd_int (h.mono (by decide)), rfl, decide_eq_true h⟩
theorem vd_tup {w k n : Nat} {ds : List D} (h : ∀ d ∈ ds, Vd w k d) (hl : ds.length ≤ n) (hn : n ≤ 1000 := by decide) : Vd ((w + 2) * n + 4) (k + 1) (.tup ds) :=
  ⟨gd_tup (fun d m => (h d m).g) hl hn, by
    show (decide (ds.length ≤ 1000) && okbs ds) = true
    rw [decide_eq_true (by omega), okbs_of fun d m => (h d m).o]; rfl, bndbs_of fun d m => (h d m).b⟩
theorem vd_lst {w k n : Nat} {ds : List D} (h : ∀ d ∈ ds, Vd w k d) (hl : ds.length ≤ n) (hn : n ≤ 1000 := by decide) : Vd ((w + 2) * n + 4) (k + 1) (.lst ds) :=
  ⟨gd_lst (fun d m => (h d m).g) hl hn, by
    show (decide (ds.length ≤ 1000) && okbs ds) = true
    rw [decide_eq_true (by omega), okbs_of fun d m => (h d m).o]; rfl, bndbs_of fun d m => (h d m).b⟩
def okC (d : D) : Bool := plainR d && (toP d).showable && decide ((toP d).depth ≤ 3) && decide ((toP d).shown.length ≤ 800) && (toP d).shown.cps.toList.all (fun c => decide (c < 16 ^ 8)) && okb d && bndb d
theorem okC_vd {d : D} (h : okC d = true) : Vd 800 3 d := by
  unfold okC at h
  simp only [Bool.and_eq_true, decide_eq_true_eq, List.all_eq_true] at h
  obtain ⟨⟨⟨⟨⟨⟨h1, h2⟩, h3⟩, h4⟩, h5⟩, h6⟩, h7⟩ := h
  exact ⟨⟨h1, h2, h3, h4, h5, (Pd.mk h1 h6).pl.le⟩, h6, h7⟩
/-! ### what is drawn -/
theorem e_draw {n : Int} (h0 : 0 < n) (h1 : n < 1000000000) (h : ∀ r, 0 ≤ r → r < n → Q (.int r)) : tf_draw ξ [.deck, .int n] Q := ⟨⟨h0, h1⟩, h⟩
theorem atI_mem {ds : List D} {r : Int} (h0 : 0 ≤ r) (h1 : r < ds.length) : ∃ d, atI ds r = some d ∧ d ∈ ds := by
  obtain ⟨n, rfl⟩ := Int.eq_ofNat_of_zero_le h0
  have hn : n < ds.length := by omega
  exact ⟨ds[n], atI_nat (List.getElem?_eq_getElem hn), List.getElem_mem hn⟩
theorem e_pick {ds : List D} (h0 : 0 < ds.length) (h1 : ds.length < 1000000000) (h : ∀ d ∈ ds, Q d) : tf__law_pick ξ [.deck, .lst ds] Q := by
  refine ⟨rfl, ⟨by omega, by omega⟩, fun r a b => ?_⟩
  obtain ⟨d, e, m⟩ := atI_mem a b
  show (match atI ds r with | some d => Q d | none => False)
  rw [e]
  exact h d m
theorem ix_any {ds : List D} {r : Int} (h0 : 0 ≤ r) (h1 : r < ds.length) (h : ∀ d ∈ ds, Q d) : gIx (.tup ds) (.int r) Q := by
  obtain ⟨d, e, m⟩ := atI_mem h0 h1
  show (match atI ds r with | some d => Q d | none => False)
  rw [e]
  exact h d m
theorem ints_cons (lo : Int) (n : Nat) : intsD lo (n + 1) = .int lo :: intsD (lo + 1) n := by
  unfold intsD
  rw [List.range_succ_eq_map, List.map_cons, List.map_map]
  congr 1
  · simp
  · apply List.map_congr_left
    intro i _
    show D.int (lo + ((i + 1 : Nat) : Int)) = D.int (lo + 1 + (i : Int))
    congr 1
    omega
theorem p6 (k : Nat) : (10 : Int) ^ (6 * k) < 2 ^ (20 * k) + 1 := by
  have h : (10 ^ (6 * k) : Nat) ≤ 2 ^ (20 * k) := by
    rw [Nat.pow_mul, Nat.pow_mul]
    exact Nat.pow_le_pow_left (by decide) k
  have : ((10 ^ (6 * k) : Nat) : Int) ≤ ((2 ^ (20 * k) : Nat) : Int) := Int.ofNat_le.mpr h
  rw [Int.natCast_pow, Int.natCast_pow] at this
  have e1 : ((10 : Nat) : Int) = 10 := rfl
  have e2 : ((2 : Nat) : Int) = 2 := rfl
  rw [e1, e2] at this
  omega
theorem bd_pow {x : Int} {k : Nat} (h0 : 0 ≤ x) (h : x < 10 ^ (6 * k)) : Bd (20 * k) x := by
  have := p6 k
  unfold Bd
  have e : ((2 ^ (20 * k) : Nat) : Int) = 2 ^ (20 * k) := by rw [Int.natCast_pow]; rfl
  omega
theorem bd_face {f x : Int} {n : Nat} (hf : f = 1 ∨ f = -1) (h : Bd n x) : Bd n (f * x) := by
  rcases hf with rfl | rfl
  · rw [Int.one_mul]; exact h
  · rw [Int.neg_one_mul]; exact h.neg
theorem loop_int {ξ : XW} {De : DEnds} {x1 x2 x3 : Slot} : ∀ (n i : Nat) (f : Int) (s : Slot) (lo : Int), 0 ≤ f → f < 10 ^ (6 * i) → i + n ≤ 200 → (∀ f s, 0 ≤ f → f < 10 ^ (6 * (i + n)) → De.nx [.d .deck, x1, x2, x3, .d (.int f), s]) →
    forD (dgName 5) (dAsg (dBin gAddA (dBin gMulA (dVar 4) (dBin gPow (dC (.int 10)) (dC (.int 6)))) (dCall 2 tf_draw (dCons (dVar 0) (dCons (dBin gPow (dC (.int 10)) (dC (.int 6))) dNil)))) (dgName 4)) ξ De (intsD lo n) [.d .deck, x1, x2, x3, .d (.int f), s]
  | 0, i, f, s, lo, h0, h1, _, h => h f s h0 h1
  | n + 1, i, f, s, lo, h0, h1, hl, h => by
    rw [ints_cons]
    have pw : CPow 10 6 := ⟨by decide, by decide, by decide⟩
    have bf : Bd 4000 f := (bd_pow h0 h1).mono (by omega)
    refine ⟨pw, bf.cmul (Bd.mono (n := 20) Bd.lit (by decide) : Bd 20 ((10 : Int) ^ (6 : Int).toNat)), pw, rfl, e_draw (by decide) (by decide) fun r r0 r1 => ?_⟩
    refine loop_int n (i + 1) _ _ _ ?_ ?_ (by omega) (by rw [show i + 1 + n = i + (n + 1) by omega]; exact h)
    · have : (10 : Int) ^ (6 : Int).toNat = 1000000 := rfl
      rw [this] at r1 ⊢
      omega
    · have e1 : (10 : Int) ^ (6 : Int).toNat = 1000000 := rfl
      rw [e1] at r1 ⊢
      rw [show 6 * (i + 1) = 6 * i + 6 by omega, Int.pow_add]
      generalize (10 : Int) ^ (6 * i) = z at *
      show f * 1000000 + r < z * 1000000
      omega
theorem e_integer {k : Nat} (h0 : 1 ≤ k) (h1 : k ≤ 166) (h : ∀ x, Bd (20 * k) x → Q (.int x)) : tf__law_integer ξ [.deck, .int (k : Int)] Q := by
  have bk : Bd 10 (k : Int) := by unfold Bd; omega
  refine ⟨rfl, e_draw (by decide) (by decide) fun w w0 w1 => ⟨rfl, e_draw (by decide) (by decide) fun f f0 f1 => ⟨Bd.cmul (n := 2) Bd.lit (bd_small (n := 2) (m := 2) f0 f1), ?_⟩⟩⟩
  have hf : 1 - 2 * f = 1 ∨ 1 - 2 * f = -1 := by omega
  have bf : Bd 2 (1 - 2 * f) := by rcases hf with e | e <;> rw [e] <;> exact Bd.lit
  refine ifd (fun hw => ?_) (fun hw => ?_)
  · refine ⟨sz (n := 6) (by decide), ix_any w0 hw ?_⟩
    intro d hd
    obtain ⟨m, rfl, m0, m1⟩ : ∃ m : Int, d = .int m ∧ 0 < m ∧ m ≤ 1000 := by
      simp only [List.mem_cons, List.not_mem_nil, or_false] at hd
      rcases hd with rfl | rfl | rfl | rfl | rfl | rfl <;> exact ⟨_, rfl, by decide, by decide⟩
    refine ⟨rfl, e_draw m0 (by omega) fun r r0 r1 => ?_⟩
    have br : Bd 10 r := by unfold Bd; omega
    exact ⟨bf.cmul br, h _ ((bd_face hf br).mono (by omega))⟩
  · refine ifd (fun hw6 => ?_) (fun hw6 => ?_)
    · refine ⟨Bd.cmul (n := 3) Bd.lit bk, ⟨by omega, by omega⟩, rfl, e_draw (by decide) (by decide) fun r r0 r1 => ?_⟩
      have e : (6 * (k : Int)).toNat = 6 * k := by omega
      rw [e]
      have l : (1000000 : Int) ≤ 10 ^ (6 * k) := by
        have : (10 ^ 6 : Nat) ≤ 10 ^ (6 * k) := Nat.pow_le_pow_right (by decide) (by omega)
        have := Int.ofNat_le.mpr this
        rw [Int.natCast_pow, Int.natCast_pow] at this
        exact this
      have b : Bd (20 * k) (10 ^ (6 * k) - 1 - r) := bd_pow (by omega) (by omega)
      exact ⟨bf.cmul (b.mono (m := 4000) (by omega)), h _ (bd_face hf b)⟩
    · refine ⟨rfl, e_draw (by omega) (by omega) fun r r0 r1 => ⟨⟨by omega, by omega⟩, ?_⟩⟩
      refine loop_int _ 0 0 _ 0 (Int.le_refl _) (by decide) (by omega) ?_
      intro x s x0 x1
      have b : Bd (20 * k) x := bd_pow x0 (Int.lt_of_lt_of_le x1 (by
        have : (10 ^ (6 * (0 + (1 + r).toNat)) : Nat) ≤ 10 ^ (6 * k) := Nat.pow_le_pow_right (by decide) (by omega)
        have := Int.ofNat_le.mpr this
        rw [Int.natCast_pow, Int.natCast_pow] at this
        exact this))
      exact ⟨bf.cmul (b.mono (m := 4000) (by omega)), h _ (bd_face hf b)⟩
structure Dr (t : Tl) : Prop where
  ok : t.Ok
  b : Bd 229 t.k.a ∧ Bd 229 t.k.b ∧ Bd 229 t.k.c ∧ Bd 229 t.k.d ∧ Bd 229 t.k.e
theorem e_drawn (h : ∀ t, Dr t → Q t.D) : tf__law_drawn ξ [.deck] Q := by
  refine ⟨⟨by decide, sz5⟩, rfl, e_integer (k := 9) (by decide) (by decide) fun x0 h0 => ⟨rfl, e_integer (k := 9) (by decide) (by decide) fun x1 h1 => ⟨rfl, e_integer (k := 9) (by decide) (by decide) fun x2 h2 => ⟨rfl, e_integer (k := 9) (by decide) (by decide) fun x3 h3 => ⟨rfl, e_integer (k := 9) (by decide) (by decide) fun x4 h4 => ⟨rfl, e_draw (by decide) (by decide) fun j j0 j1 => ⟨rfl, e_draw (by decide) (by decide) fun r r0 r1 => ?_⟩⟩⟩⟩⟩⟩⟩
  have g0 : Bd 229 x0 := h0.mono (by decide)
  have g1 : Bd 229 x1 := h1.mono (by decide)
  have g2 : Bd 229 x2 := h2.mono (by decide)
  have g3 : Bd 229 x3 := h3.mono (by decide)
  have g4 : Bd 229 x4 := h4.mono (by decide)
  have new : ∀ d x, 0 ≤ d → d < 2 → (x = x0 ∨ x = x1 ∨ x = x2 ∨ x = x3 ∨ x = x4) → Bd 229 (x + 1 + d - [x0, x1, x2, x3, x4].sum) := by
    intro d x d0 d1 hx
    simp only [List.sum_cons, List.sum_nil]
    unfold Bd at *
    have p1 : (2 : Nat) ^ (20 * 9) * 16 ≤ 2 ^ 229 := by decide
    have p2 : 16 ≤ (2 : Nat) ^ (20 * 9) := by decide
    generalize (2 : Nat) ^ (20 * 9) = z at *
    generalize (2 : Nat) ^ 229 = y at *
    omega
  have fin : ∀ (k : R5), k.sum = 1 ∨ k.sum = 2 → (Bd 229 k.a ∧ Bd 229 k.b ∧ Bd 229 k.c ∧ Bd 229 k.d ∧ Bd 229 k.e) → ∀ q, 0 ≤ q → q < 4 → Q (.tup [k.D, .int (lo r ((r + 1 + q) % 5)), .int (hi r ((r + 1 + q) % 5))]) := by
    intro k hk hb q q0 q1
    refine h ⟨k, lo r ((r + 1 + q) % 5), hi r ((r + 1 + q) % 5)⟩ ⟨⟨hk, ?_, ?_, ?_⟩, hb⟩
    · show 0 ≤ lo _ _
      unfold lo
      split <;> omega
    · show lo _ _ < hi _ _
      unfold lo hi
      split <;> split <;> omega
    · show hi _ _ ≤ 4
      unfold hi
      split <;> omega
  have hj : j = 0 ∨ j = 1 ∨ j = 2 ∨ j = 3 ∨ j = 4 := by omega
  have m5 : (0 : Int) < 5 := by decide
  have e : ∀ l : R5, l.sum = l.a + (l.b + (l.c + (l.d + (l.e + 0)))) := fun _ => rfl
  have s : [x0, x1, x2, x3, x4].sum = x0 + (x1 + (x2 + (x3 + (x4 + 0)))) := rfl
  rcases hj with rfl | rfl | rfl | rfl | rfl
  · refine ⟨rfl, e_draw (by decide) (by decide) fun d d0 d1 => ⟨rfl, rfl, e_draw (by decide) (by decide) fun q q0 q1 => ⟨m5, szN 3, fin ⟨_, _, _, _, _⟩ ?_ ⟨new d x0 d0 d1 (by simp), g1, g2, g3, g4⟩ q q0 q1⟩⟩⟩
    rw [e, s]; dsimp only; omega
  · refine ⟨rfl, e_draw (by decide) (by decide) fun d d0 d1 => ⟨rfl, rfl, e_draw (by decide) (by decide) fun q q0 q1 => ⟨m5, szN 3, fin ⟨_, _, _, _, _⟩ ?_ ⟨g0, new d x1 d0 d1 (by simp), g2, g3, g4⟩ q q0 q1⟩⟩⟩
    rw [e, s]; dsimp only; omega
  · refine ⟨rfl, e_draw (by decide) (by decide) fun d d0 d1 => ⟨rfl, rfl, e_draw (by decide) (by decide) fun q q0 q1 => ⟨m5, szN 3, fin ⟨_, _, _, _, _⟩ ?_ ⟨g0, g1, new d x2 d0 d1 (by simp), g3, g4⟩ q q0 q1⟩⟩⟩
    rw [e, s]; dsimp only; omega
  · refine ⟨rfl, e_draw (by decide) (by decide) fun d d0 d1 => ⟨rfl, rfl, e_draw (by decide) (by decide) fun q q0 q1 => ⟨m5, szN 3, fin ⟨_, _, _, _, _⟩ ?_ ⟨g0, g1, g2, new d x3 d0 d1 (by simp), g4⟩ q q0 q1⟩⟩⟩
    rw [e, s]; dsimp only; omega
  · refine ⟨rfl, e_draw (by decide) (by decide) fun d d0 d1 => ⟨rfl, rfl, e_draw (by decide) (by decide) fun q q0 q1 => ⟨m5, szN 3, fin ⟨_, _, _, _, _⟩ ?_ ⟨g0, g1, g2, g3, new d x4 d0 d1 (by simp)⟩ q q0 q1⟩⟩⟩
    rw [e, s]; dsimp only; omega
end K16
set_option Elab.async false
set_option linter.all false
set_option maxHeartbeats 1000000
set_option maxRecDepth 100000
namespace K16
open PySem PySem.Spec L2 DL
variable {ξ : XT} {Q : D → Prop}
abbrev T5 (a b c d e : Int) : D := .tup [.int a, .int b, .int c, .int d, .int e]
def C1 : List D := [.non, .bl true, .bl false, .int 0, .int 1, .int (-1), .int 4, .int 5, .str "", .str "0", .tup [], .tup [.tup []], .lst [], .dct [] [], T5 0 0 1 0 1, T5 1 0 0 0 0, T5 0 0 0 0 0]
def C2 : List D := [.str "a\n~", .tup [.int 0, .int 1], .tup [T5 0 0 1 0 1, .int 0], .tup [T5 0 0 1 0 0, .int 1, .int 4], .tup [T5 0 0 1 0 0, .int 4, .int 1], .tup [T5 0 0 2 0 1, .int 0, .int 1]]
def C3 : List D := [.tup [T5 1 0 0 0 0, .int 2, .int 2], .tup [.tup [.bl true, .int 0, .int 0, .int 0, .int 0], .int 0, .int 1], .tup [T5 1 0 0 0 0, .int 0, .bl true], .dct [.inr "k"] [.tup [.int 0, .int 1]], .tup [.int 2, .int 0, .int 1], .int (-3)]
theorem okCs : (C1 ++ C2 ++ C3).all okC = true := by decide +kernel
theorem c_vd {d : D} (h : d ∈ C1 ++ C2 ++ C3) : Vd 800 3 d := okC_vd (List.all_eq_true.mp okCs d h)
theorem vd_str {i : Int} (h : Bd 230 i) : Vd 800 3 (.str (Str.ofString (toString i))) := by
  have h10 : i.natAbs < 10 ^ 76 := Nat.lt_of_lt_of_le h (by decide)
  have l := int_text_length_le10 (k := 76) (by decide) h10
  exact ⟨(gd_str (n := 77) (by rw [PySem.ofString_length]; omega) (cs_of _)).mono (by decide) (by decide), rfl, rfl⟩
theorem vd_bl (b : Bool) : Vd 100 0 (.bl b) := ⟨gd_bl b, rfl, rfl⟩
theorem vd_one {d : D} (h : Vd 100 0 d) : Vd 800 3 (.lst [d]) ∧ Vd 800 3 (.tup [d]) := by
  have z : ∀ e ∈ [d], Vd 100 0 e := fun e m => by simp at m; subst m; exact h
  exact ⟨(vd_lst z (n := 1) (Nat.le_refl 1)).mono, (vd_tup z (n := 1) (Nat.le_refl 1)).mono⟩
theorem e_oddI {i : Int} (hi : Bd 230 i) (h : ∀ d, Vd 800 3 d → Q d) : tf__law_odd ξ [.deck, .int i] Q := by
  have l : i.natAbs.log2 < 1920 := PySem.Flt.log2_lt_of (by decide) (hi.mono (m := 1920) (by decide))
  refine ⟨szN 0, szN 0, szN 1, szN 0, szN 5, szN 5, szN 5, szN 17,
    szN 2, szN 5, szN 2, szN 5, szN 3, szN 5, szN 3, szN 5, szN 3, szN 6, szN 23,
    szN 5, szN 3, szN 5, szN 3, szN 5, szN 3, szN 2, szN 3, szN 6, szN 29, rfl, rfl, szN 1, szN 1, l, szN 8, ⟨by decide, by decide, szN 32⟩, szN 61, rfl, ?_⟩
  show tf__law_pick (fun _ => False) [.deck, .lst ((C1 ++ C2 ++ C3) ++ (List.replicate 4 [.int (i + 1), .int (i - 1), .int (-i), .bl (decide (i = 1)), .lst [.int i], .tup [.int i], .str (Str.ofString (toString i)), .bl (decide (i = 0))]).flatten)] Q
  refine e_pick (by show 0 < 61; decide) (by show 61 < 1000000000; decide) fun d m => h d ?_
  rcases List.mem_append.mp m with m | m
  · exact c_vd m
  have one : ∀ {j : Int}, j.natAbs < 2 ^ 230 → Bd 240 (i + j) ∧ Bd 240 (i - j) := fun {j} h => ⟨(hi.add h).mono (by decide), (hi.sub h).mono (by decide)⟩
  simp only [List.replicate, List.flatten_cons, List.flatten_nil, List.append_nil, List.mem_append, List.mem_cons, List.not_mem_nil, or_false] at m
  have v := vd_one (vd_int (hi.mono (by decide)))
  have key : ∀ d, (d = .int (i + 1) ∨ d = .int (i - 1) ∨ d = .int (-i) ∨ d = .bl (decide (i = 1)) ∨ d = .lst [.int i] ∨ d = .tup [.int i] ∨ d = .str (Str.ofString (toString i)) ∨ d = .bl (decide (i = 0))) → Vd 800 3 d := by
    rintro d (rfl | rfl | rfl | rfl | rfl | rfl | rfl | rfl)
    · exact (vd_int (one (by decide)).1).mono
    · exact (vd_int (one (by decide)).2).mono
    · exact (vd_int (hi.neg.mono (by decide))).mono
    · exact (vd_bl _).mono
    · exact v.1
    · exact v.2
    · exact vd_str hi
    · exact (vd_bl _).mono
  rcases m with m | m | m | m <;> exact key d m
theorem cutl {ds : List D} {lo hi : Option Int} : (cutD ds lo hi).length ≤ ds.length := by
  unfold cutD
  rw [List.length_take, List.length_drop]
  omega
theorem e_oddT {ds : List D} {w k X Y : Nat} (hi : ∀ d ∈ ds, Vd w k d) (hl : ds.length ≤ 5) (hw : 100 ≤ w) (hX : (w + 2) * 6 + 10 ≤ X) (hX2 : 800 ≤ X) (hY : k + 2 ≤ Y) (hY2 : 3 ≤ Y) (h : ∀ d, Vd X Y d → Q d) : tf__law_odd ξ [.deck, .tup ds] Q := by
  have sl : 1000 ≤ sizeLine := szN 1000
  have l1 := cutl (ds := ds) (lo := none) (hi := some 1)
  have l2 := cutl (ds := ds) (lo := some 1) (hi := none)
  have l3 := cutl (ds := ds) (lo := none) (hi := some (-1))
  have c1 : ds.length + 1 ≤ sizeLine := by omega
  have c2 : (cutD ds none (some 1)).length + ds.length ≤ sizeLine := by omega
  have c3 : (cutD ds (some 1) none).length + (cutD ds none (some 1)).length ≤ sizeLine := by omega
  refine ⟨szN 0, szN 0, szN 1, szN 0, szN 5, szN 5, szN 5, szN 17,
    szN 2, szN 5, szN 2, szN 5, szN 3, szN 5, szN 3, szN 5, szN 3, szN 6, szN 23,
    szN 5, szN 3, szN 5, szN 3, szN 5, szN 3, szN 2, szN 3, szN 6, szN 29, rfl, szN 1, c1, szN 1, c2, c3, szN 8, ⟨by decide, by decide, szN 24⟩, szN 53, rfl, ?_⟩
  show tf__law_pick (fun _ => False) [.deck, .lst ((C1 ++ C2 ++ C3) ++ (List.replicate 3 [.lst ds, .tup (ds ++ [.int 0]), .tup (cutD ds (some 1) none), .tup (cutD ds none (some (-1))), .tup ds.reverse, .tup [.tup ds], .tup (cutD ds none (some 1) ++ ds), .tup (cutD ds (some 1) none ++ cutD ds none (some 1))]).flatten)] Q
  refine e_pick (by show 0 < 53; decide) (by show 53 < 1000000000; decide) fun d m => h d ?_
  rcases List.mem_append.mp m with m | m
  · exact (c_vd m).mono hX2 hY2
  simp only [List.replicate, List.flatten_cons, List.flatten_nil, List.append_nil, List.mem_append, List.mem_cons, List.not_mem_nil, or_false] at m
  have h1 : (cutD ds none (some 1)).length ≤ 1 := by
    unfold cutD
    rw [List.length_take]
    have : HT.sIx ds.length ds.length (some 1) ≤ 1 := by
      show (if (1 : Int) < 0 then ((1 : Int) + (ds.length : Int)).toNat else min (1 : Int).toNat ds.length) ≤ 1
      rw [if_neg (by decide)]
      exact Nat.min_le_left _ _
    omega
  have cut : ∀ {lo hi : Option Int}, ∀ d ∈ cutD ds lo hi, Vd w k d := fun d m => hi d (List.mem_of_mem_drop (List.mem_of_mem_take m))
  have app : ∀ {xs ys : List D}, (∀ d ∈ xs, Vd w k d) → (∀ d ∈ ys, Vd w k d) → ∀ d ∈ xs ++ ys, Vd w k d := fun a b d m => (List.mem_append.mp m).elim (a d) (b d)
  have tup : ∀ {xs : List D}, (∀ d ∈ xs, Vd w k d) → xs.length ≤ 6 → Vd X Y (.tup xs) := fun a b => (vd_tup a b).mono (by omega) (by omega)
  have z : ∀ d ∈ [D.int 0], Vd w k d := fun d m => by simp at m; subst m; exact (vd_int (.lit (by decide))).mono hw (by omega)
  have key : ∀ d, (d = .lst ds ∨ d = .tup (ds ++ [.int 0]) ∨ d = .tup (cutD ds (some 1) none) ∨ d = .tup (cutD ds none (some (-1))) ∨ d = .tup ds.reverse ∨ d = .tup [.tup ds] ∨ d = .tup (cutD ds none (some 1) ++ ds) ∨ d = .tup (cutD ds (some 1) none ++ cutD ds none (some 1))) → Vd X Y d := by
    rintro d (rfl | rfl | rfl | rfl | rfl | rfl | rfl | rfl)
    · exact (vd_lst (n := 6) hi (by omega)).mono (by omega) (by omega)
    · exact tup (app hi z) (by rw [List.length_append, List.length_singleton]; omega)
    · exact tup cut (by omega)
    · exact tup cut (by omega)
    · exact tup (fun d m => hi d (List.mem_reverse.mp m)) (by rw [List.length_reverse]; omega)
    · have y := vd_tup (n := 5) hi (by omega)
      exact (vd_tup (n := 1) (w := (w + 2) * 5 + 4) (k := k + 1) (ds := [.tup ds]) (fun d m => by simp at m; subst m; exact y) (Nat.le_refl 1)).mono (by omega) (by omega)
    · exact tup (app cut hi) (by rw [List.length_append]; omega)
    · exact tup (app cut cut) (by rw [List.length_append]; omega)
  rcases m with m | m | m <;> exact key d m
/-! ### bent -/
theorem eqNil {d : D} {ds : List D} (h : eqOk (.tup (d :: ds)) = true) (q : Q (.bl false)) : gEq (.tup (d :: ds)) (.tup []) Q := by
  refine ⟨⟨h, by decide +kernel⟩, ?_⟩
  have e : PyData.eqv (toP (.tup (d :: ds))) (toP (.tup [])) = false := by
    simp [toP, toPs, PyData.eqv, PyData.eqvAll]
  rw [e]
  exact q
theorem eqOk_R (k : R5) : eqOk k.D = true := by
  simp [eqOk, R5.D, DL.plain, plains, toP, toPs, SeqAt.shaped, PyData.canLay0, PyData.canLayAll0, PyData.depth, PyData.depthAll]
theorem e_bentI {n : Nat} {i : Int} (hi : Bd 230 i) (h : ∀ d, Vd 800 3 d → Q d) : tf__law_bent (n + 1) ξ [.deck, .int i] Q := ⟨rfl, rfl, e_oddI hi h⟩
structure B5 (k : R5) : Prop where
  a : Bd 230 k.a
  b : Bd 230 k.b
  c : Bd 230 k.c
  d : Bd 230 k.d
  e : Bd 230 k.e
theorem B5.parts {k : R5} (h : B5 k) : ∀ d ∈ [D.int k.a, .int k.b, .int k.c, .int k.d, .int k.e], Vd 100 0 d := by
  have z : ∀ {i}, Bd 230 i → Vd 100 0 (.int i) := fun h => vd_int (h.mono (by decide))
  simp only [List.mem_cons, List.not_mem_nil, or_false, forall_eq_or_imp, forall_eq]
  exact ⟨z h.a, z h.b, z h.c, z h.d, z h.e⟩
theorem B5.vd {k : R5} (h : B5 k) : Vd 700 1 k.D := (vd_tup (n := 5) h.parts (Nat.le_refl 5)).mono
theorem vd5 {l : List D} (h : ∀ d ∈ l, Vd 800 3 d) (hl : l.length ≤ 5) : Vd 4100 4 (.tup l) := (vd_tup (n := 5) h hl).mono
theorem e_bentR {n : Nat} {k : R5} (hk : B5 k) (h : ∀ d, Vd 4100 4 d → Q d) : tf__law_bent (n + 2) ξ [.deck, k.D] Q := by
  refine ⟨rfl, szN 0, eqNil (eqOk_R k) ⟨rfl, e_draw (by decide) (by decide) fun r r0 r1 => ?_⟩⟩
  refine ifd (fun _ => ?_) (fun _ => ?_)
  · exact ⟨rfl, e_oddT hk.parts (Nat.le_refl 5) (Nat.le_refl 100) (X := 4100) (Y := 4) (by decide) (by decide) (by decide) (by decide) h⟩
  refine ⟨rfl, e_draw (by show (0 : Int) < 5; decide) (by show (5 : Int) < 1000000000; decide) fun j j0 j1 => ?_⟩
  have j1 : j < 5 := j1
  have hj : j = 0 ∨ j = 1 ∨ j = 2 ∨ j = 3 ∨ j = 4 := by omega
  have A := hk.parts
  simp only [List.mem_cons, List.not_mem_nil, or_false, forall_eq_or_imp, forall_eq] at A
  obtain ⟨A0, A1, A2, A3, A4⟩ := A
  have up : ∀ {d : D}, Vd 100 0 d → Vd 800 3 d := fun v => v.mono
  have all : ∀ {x0 x1 x2 x3 x4 : D}, Vd 800 3 x0 → Vd 800 3 x1 → Vd 800 3 x2 → Vd 800 3 x3 → Vd 800 3 x4 → Vd 4100 4 (.tup [x0, x1, x2, x3, x4]) := fun v0 v1 v2 v3 v4 => vd5 (by
    simp only [List.mem_cons, List.not_mem_nil, or_false, forall_eq_or_imp, forall_eq]
    exact ⟨v0, v1, v2, v3, v4⟩) (Nat.le_refl 5)
  rcases hj with rfl | rfl | rfl | rfl | rfl
  · exact ⟨rfl, e_bentI hk.a fun d o => ⟨szN 1, szN 1, szN 5, h _ (all o (up A1) (up A2) (up A3) (up A4))⟩⟩
  · exact ⟨rfl, e_bentI hk.b fun d o => ⟨szN 1, szN 2, szN 5, h _ (all (up A0) o (up A2) (up A3) (up A4))⟩⟩
  · exact ⟨rfl, e_bentI hk.c fun d o => ⟨szN 1, szN 3, szN 5, h _ (all (up A0) (up A1) o (up A3) (up A4))⟩⟩
  · exact ⟨rfl, e_bentI hk.d fun d o => ⟨szN 1, szN 4, szN 5, h _ (all (up A0) (up A1) (up A2) o (up A4))⟩⟩
  · exact ⟨rfl, e_bentI hk.e fun d o => ⟨szN 1, szN 5, szN 5, h _ (all (up A0) (up A1) (up A2) (up A3) o)⟩⟩
theorem j_vd {j : Int} (h0 : 0 ≤ j) (h4 : j ≤ 4) : Bd 230 j := bd_small (n := 5) (m := 230) h0 (by omega)
theorem vd3 {x y z : D} (hx : Vd 4100 4 x) (hy : Vd 4100 4 y) (hz : Vd 4100 4 z) : Vd 12400 5 (.tup [x, y, z]) := (vd_tup (n := 3) (w := 4100) (k := 4) (ds := [x, y, z]) (by
    simp only [List.mem_cons, List.not_mem_nil, or_false, forall_eq_or_imp, forall_eq]
    exact ⟨hx, hy, hz⟩) (Nat.le_refl 3)).mono
theorem vd2 {x y : D} (hx : Vd 4100 4 x) (hy : Vd 4100 4 y) : Vd 12400 5 (.tup [x, y]) := (vd_tup (n := 2) (w := 4100) (k := 4) (ds := [x, y]) (by
    simp only [List.mem_cons, List.not_mem_nil, or_false, forall_eq_or_imp, forall_eq]
    exact ⟨hx, hy⟩) (Nat.le_refl 2)).mono
theorem e_bentT {t : Tl} (hk : B5 t.k) (hr : Bd 230 t.r) (hs : Bd 230 t.s) (h : ∀ d, Vd 12400 5 d → Q d) : tf__law_bent 3 ξ [.deck, t.D] Q := by
  have vr : Vd 700 1 (.int t.r) := (vd_int (hr.mono (by decide))).mono
  have vs : Vd 700 1 (.int t.s) := (vd_int (hs.mono (by decide))).mono
  have A : ∀ d ∈ [t.k.D, .int t.r, .int t.s], Vd 700 1 d := by
    simp only [List.mem_cons, List.not_mem_nil, or_false, forall_eq_or_imp, forall_eq]
    exact ⟨hk.vd, vr, vs⟩
  refine ⟨rfl, szN 0, eqNil (eqOk_T t) ⟨rfl, e_draw (by decide) (by decide) fun r r0 r1 => ?_⟩⟩
  refine ifd (fun _ => ?_) (fun _ => ?_)
  · exact ⟨rfl, e_oddT A (by show 3 ≤ 5; decide) (by decide) (X := 12400) (Y := 5) (by decide) (by decide) (by decide) (by decide) h⟩
  refine ⟨rfl, e_draw (by show (0 : Int) < 3; decide) (by show (3 : Int) < 1000000000; decide) fun j j0 j1 => ?_⟩
  have j1 : j < 3 := j1
  have hj : j = 0 ∨ j = 1 ∨ j = 2 := by omega
  rcases hj with rfl | rfl | rfl
  · exact ⟨rfl, e_bentR hk fun d o => ⟨szN 1, szN 1, szN 3, h _ (vd3 o vr.mono vs.mono)⟩⟩
  · exact ⟨rfl, e_bentI hr fun d o => ⟨szN 1, szN 2, szN 3, h _ (vd3 hk.vd.mono o.mono vs.mono)⟩⟩
  · exact ⟨rfl, e_bentI hs fun d o => ⟨szN 1, szN 3, szN 3, h _ (vd3 hk.vd.mono vr.mono o.mono)⟩⟩
theorem e_bentE {x : Ed} (hk : B5 x.1) (hr : Bd 230 x.2) (h : ∀ d, Vd 12400 5 d → Q d) : tf__law_bent 3 ξ [.deck, eD x] Q := by
  have vr : Vd 700 1 (.int x.2) := (vd_int (hr.mono (by decide))).mono
  have A : ∀ d ∈ [x.1.D, .int x.2], Vd 700 1 d := by
    simp only [List.mem_cons, List.not_mem_nil, or_false, forall_eq_or_imp, forall_eq]
    exact ⟨hk.vd, vr⟩
  refine ⟨rfl, szN 0, eqNil (eqOk_E x) ⟨rfl, e_draw (by decide) (by decide) fun r r0 r1 => ?_⟩⟩
  refine ifd (fun _ => ?_) (fun _ => ?_)
  · exact ⟨rfl, e_oddT A (by show 2 ≤ 5; decide) (by decide) (X := 12400) (Y := 5) (by decide) (by decide) (by decide) (by decide) h⟩
  refine ⟨rfl, e_draw (by show (0 : Int) < 2; decide) (by show (2 : Int) < 1000000000; decide) fun j j0 j1 => ?_⟩
  have j1 : j < 2 := j1
  have hj : j = 0 ∨ j = 1 := by omega
  rcases hj with rfl | rfl
  · exact ⟨rfl, e_bentR hk fun d o => ⟨szN 1, szN 1, szN 2, h _ (vd2 o vr.mono)⟩⟩
  · exact ⟨rfl, e_bentI hr fun d o => ⟨szN 1, szN 2, szN 2, h _ (vd2 hk.vd.mono o.mono)⟩⟩
theorem e_maybe {it : D} (v : Vd 12400 5 it) (hb : ∀ {ξ : XT}, (∀ d, Vd 12400 5 d → Q d) → tf__law_bent 3 ξ [.deck, it] Q) (h : ∀ d, Vd 12400 5 d → Q d) : tf__law_maybe ξ [.deck, it] Q := by
  refine ⟨rfl, e_draw (by decide) (by decide) fun r r0 r1 => ?_⟩
  refine ifd (fun _ => ?_) (fun _ => ?_)
  · exact ⟨rfl, hb h⟩
  · exact h it v
theorem B5.dr {t : Tl} (h : Dr t) : B5 t.k := ⟨h.b.1.mono (by decide), h.b.2.1.mono (by decide), h.b.2.2.1.mono (by decide), h.b.2.2.2.1.mono (by decide), h.b.2.2.2.2.mono (by decide)⟩
theorem st_bd {x r j : Int} (h : Bd 229 x) : Bd 230 (R5.st x r j 1) := by
  unfold R5.st
  split
  · exact h.add (.lit (by decide))
  · exact h.mono (by decide)
theorem B5.up {t : Tl} {j : Int} (h : Dr t) : B5 (t.k.up j 1) := ⟨st_bd h.b.1, st_bd h.b.2.1, st_bd h.b.2.2.1, st_bd h.b.2.2.2.1, st_bd h.b.2.2.2.2⟩
theorem B5.E {t : Tl} (h : Dr t) (i : Nat) : B5 (t.E i).1 := by
  unfold Tl.E
  split
  · exact .dr h
  · exact .dr h
  · exact .up h
  · exact .up h
theorem vd_T {t : Tl} (hk : B5 t.k) (hr : Bd 230 t.r) (hs : Bd 230 t.s) : Vd 12400 5 t.D := vd3 hk.vd.mono (vd_int (hr.mono (by decide))).mono (vd_int (hs.mono (by decide))).mono
theorem vd_E {x : Ed} (hk : B5 x.1) (hr : Bd 230 x.2) : Vd 12400 5 (eD x) := vd2 hk.vd.mono (vd_int (hr.mono (by decide))).mono
theorem e_maybeT {t : Tl} (g : Dr t) (h : ∀ d, Vd 12400 5 d → Q d) : tf__law_maybe ξ [.deck, t.D] Q :=
  e_maybe (vd_T (.dr g) (j_vd g.ok.r0 g.ok.r4) (j_vd g.ok.s0 g.ok.s4)) (fun h => e_bentT (.dr g) (j_vd g.ok.r0 g.ok.r4) (j_vd g.ok.s0 g.ok.s4) h) h
theorem e_maybeE {t : Tl} (g : Dr t) (i : Nat) (h : ∀ d, Vd 12400 5 d → Q d) : tf__law_maybe ξ [.deck, eD (t.E i)] Q :=
  e_maybe (vd_E (.E g i) (j_vd (E_rng g.ok i).1 (E_rng g.ok i).2)) (fun h => e_bentE (.E g i) (j_vd (E_rng g.ok i).1 (E_rng g.ok i).2) h) h
end K16
set_option Elab.async false
set_option linter.all false
set_option maxHeartbeats 1000000
set_option maxRecDepth 100000
namespace K16
open PySem PySem.Spec L2 DL
variable {ξ : XT} {Q : D → Prop}
/-! ### what the law makes of a call -/
abbrev tol (d : D) : D := .tup [.str "told", d]
abbrev bad (x : Str) (d : D) : D := .tup [.str x, d, .bl false]
theorem m_BadTile_BadTile : mm_BadTile "BadTile" = some true := by decide +kernel
theorem m_BadTile_BadEdge : mm_BadTile "BadEdge" = some false := by decide +kernel
theorem m_BadEdge_BadEdge : mm_BadEdge "BadEdge" = some true := by decide +kernel
theorem e_told {Th : TDE} {env : SE} {ξ : XW}
    (h : ∀ (X : DX → Prop) (P : D → Prop), (∀ d, Q (bad "tile" d) → X ⟨"BadTile", [("thing", d)]⟩) → (∀ d, Q (bad "edge" d) → X ⟨"BadEdge", [("thing", d)]⟩) → (∀ d, Q (tol d) → P d) → Th (fun x _ => X x) (hide env) P) :
    dLam 3 T__law_told Th ξ env Q := by
  intro v
  refine ⟨rfl, h _ _ ?_ ?_ ?_⟩
  · intro d q
    unfold wDs
    dsimp only
    rw [m_BadTile_BadTile]
    intro a
    exact ⟨rfl, rfl, rfl, rfl, szN 3, q⟩
  · intro d q
    unfold wDs
    dsimp only
    rw [m_BadTile_BadEdge]
    unfold wDs
    dsimp only
    rw [m_BadEdge_BadEdge]
    intro a
    exact ⟨rfl, rfl, rfl, rfl, szN 3, q⟩
  · intro d q
    exact ⟨szN 2, q⟩
theorem gd_bad {x : Str} {d : D} (h : Gd 12400 5 d) (hx : x.length ≤ 10) (c : Cs x) : Gd 38000 6 (bad x d) :=
  (gd_tup (n := 3) (w := 12400) (k := 5) (ds := [.str x, d, .bl false]) (by
    simp only [List.mem_cons, List.not_mem_nil, or_false, forall_eq_or_imp, forall_eq]
    exact ⟨(gd_str hx c).mono (by decide) (by decide), h, (gd_bl false).mono (by decide) (by decide)⟩) (Nat.le_refl 3)).mono (by decide) (by decide)
theorem gd_tol {d : D} (h : Gd 12400 5 d) : Gd 38000 6 (tol d) :=
  (gd_tup (n := 2) (w := 12400) (k := 5) (ds := [.str "told", d]) (by
    simp only [List.mem_cons, List.not_mem_nil, or_false, forall_eq_or_imp, forall_eq]
    exact ⟨(gd_str (n := 10) (by decide) (cs_of _)).mono (by decide) (by decide), h⟩) (Nat.le_refl 2)).mono (by decide) (by decide)
/-! ### bounds -/
structure Bk (n : Nat) (k : R5) : Prop where
  a : Bd n k.a
  b : Bd n k.b
  c : Bd n k.c
  d : Bd n k.d
  e : Bd n k.e
theorem bk_vd {w j : Nat} {k : R5} (v : Vd w j k.D) : Bk 240 k := by
  have z := v.b
  have z : (decide (k.a.natAbs < 2 ^ 240) && (decide (k.b.natAbs < 2 ^ 240) && (decide (k.c.natAbs < 2 ^ 240) && (decide (k.d.natAbs < 2 ^ 240) && (decide (k.e.natAbs < 2 ^ 240) && true))))) = true := z
  simp only [Bool.and_eq_true, decide_eq_true_eq] at z
  exact ⟨z.1, z.2.1, z.2.2.1, z.2.2.2.1, z.2.2.2.2.1⟩
theorem bk_T {w j : Nat} {t : Tl} (v : Vd w j t.D) : Bk 240 t.k := by
  have z := v.b
  have z : ((decide (t.k.a.natAbs < 2 ^ 240) && (decide (t.k.b.natAbs < 2 ^ 240) && (decide (t.k.c.natAbs < 2 ^ 240) && (decide (t.k.d.natAbs < 2 ^ 240) && (decide (t.k.e.natAbs < 2 ^ 240) && true))))) && _) = true := z
  have z := (Bool.and_eq_true_iff.mp z).1
  simp only [Bool.and_eq_true, decide_eq_true_eq] at z
  exact ⟨z.1, z.2.1, z.2.2.1, z.2.2.2.1, z.2.2.2.2.1⟩
theorem st_bn {n : Nat} {x r j : Int} (hn : 2 ≤ n) (h : Bd n x) : Bd (n + 1) (R5.st x r j 1) := by
  unfold R5.st
  split
  · exact h.add ((Bd.lit (by decide) : Bd 2 1).mono hn)
  · exact h.mono (by omega)
theorem Bk.up {n : Nat} {k : R5} {j : Int} (h : Bk n k) (hn : 2 ≤ n := by decide) : Bk (n + 1) (k.up j 1) := ⟨st_bn hn h.a, st_bn hn h.b, st_bn hn h.c, st_bn hn h.d, st_bn hn h.e⟩
theorem Bk.mono {n m : Nat} {k : R5} (h : Bk n k) (hn : n ≤ m := by decide) : Bk m k := ⟨h.a.mono hn, h.b.mono hn, h.c.mono hn, h.d.mono hn, h.e.mono hn⟩
theorem Bk.gd {k : R5} (h : Bk 250 k) : Gd 700 1 k.D := (gd_tup (n := 5) (w := 100) (k := 0) (ds := [.int k.a, .int k.b, .int k.c, .int k.d, .int k.e]) (by
  simp only [List.mem_cons, List.not_mem_nil, or_false, forall_eq_or_imp, forall_eq]
  exact ⟨gd_int h.a, gd_int h.b, gd_int h.c, gd_int h.d, gd_int h.e⟩) (Nat.le_refl 5)).mono (by decide) (by decide)
/-! ### what is due -/
def fourC (t : Tl) : D := .tup [t.k.D, (t.k.up t.r 1).D, (t.k.up t.s 1).D, ((t.k.up t.r 1).up t.s 1).D]
def dueT (t : Tl) : List D := [tol (fourC t), tol (.tup (eds t)), tol (.bl (thk t.r t.s)), tol (.bl (decide (t.k.sum = 1))), tol (.tup (mk4 t))]
def toTl : D → Tl
  | .tup [.tup [.int a, .int b, .int c, .int d, .int e], .int r, .int s] => ⟨⟨a, b, c, d, e⟩, r, s⟩
  | _ => ⟨⟨0, 0, 0, 0, 0⟩, 0, 0⟩
theorem toTl_D (t : Tl) : toTl t.D = t := rfl
def due (i : Nat) (x : D) : D := if isT x = true then (match i with
  | 0 => tol (fourC (toTl x))
  | 1 => tol (.tup (eds (toTl x)))
  | 2 => tol (.bl (thk (toTl x).r (toTl x).s))
  | 3 => tol (.bl (decide ((toTl x).k.sum = 1)))
  | _ => tol (.tup (mk4 (toTl x)))) else bad "tile" x
def dueA (x : D) : List D := [due 0 x, due 1 x, due 2 x, due 3 x, due 4 x]
theorem dueA_no {x : D} (h : isT x = false) : dueA x = [bad "tile" x, bad "tile" x, bad "tile" x, bad "tile" x, bad "tile" x] := by
  unfold dueA due
  simp [h]
theorem dueA_T {t : Tl} (h : t.Ok) : dueA t.D = dueT t := by
  unfold dueA due dueT
  simp only [h.isT, if_true, toTl_D]
  rfl
theorem gd_four {w k : Nat} {a b c d : D} (h1 : Gd w k a) (h2 : Gd w k b) (h3 : Gd w k c) (h4 : Gd w k d) : Gd ((w + 2) * 4 + 4) (k + 1) (.tup [a, b, c, d]) := gd_tup (n := 4) (ds := [a, b, c, d]) (by
  simp only [List.mem_cons, List.not_mem_nil, or_false, forall_eq_or_imp, forall_eq]
  exact ⟨h1, h2, h3, h4⟩) (Nat.le_refl 4)
theorem gd_mk {l r s : Int} {i : Nat} : Gd 102 0 (.str (mkS l r s i)) := by
  unfold mkS inn
  split
  · exact gd_str (n := 10) (by decide) (cs_of _)
  · split
    · exact gd_str (n := 10) (by decide) (cs_of _)
    · exact gd_str (n := 10) (by decide) (cs_of _)
theorem gd_ed {k : R5} {j : Int} (h : Bk 250 k) (h0 : 0 ≤ j) (h4 : j ≤ 4) : Gd 1500 2 (eD (k, j)) := (gd_tup (n := 2) (w := 700) (k := 1) (ds := [k.D, .int j]) (by
  simp only [List.mem_cons, List.not_mem_nil, or_false, forall_eq_or_imp, forall_eq]
  exact ⟨h.gd, (gd_int ((j_vd h0 h4).mono (by decide))).mono (by decide) (by decide)⟩) (Nat.le_refl 2)).mono (by decide) (by decide)
theorem due_gd {x : D} (v : Vd 12400 5 x) {i : Nat} : Gd 38000 6 (due i x) := by
  unfold due
  cases h : isT x with
  | false => exact gd_bad v.g (by decide) (cs_of _)
  | true =>
    obtain ⟨t, rfl, ht⟩ := isT_of h
    rw [toTl_D]
    have b : Bk 240 t.k := bk_T v
    have b0 : Bk 250 t.k := b.mono
    have b1 : Bk 250 (t.k.up t.r 1) := b.up.mono
    have b2 : Bk 250 (t.k.up t.s 1) := b.up.mono
    have b3 : Bk 250 ((t.k.up t.r 1).up t.s 1) := (b.up (j := t.r)).up.mono
    show Gd 38000 6 (match i with
      | 0 => tol (fourC t)
      | 1 => tol (.tup (eds t))
      | 2 => tol (.bl (thk t.r t.s))
      | 3 => tol (.bl (decide (t.k.sum = 1)))
      | _ => tol (.tup (mk4 t)))
    split
    · exact gd_tol ((gd_four b0.gd b1.gd b2.gd b3.gd).mono (by decide) (by decide))
    · exact gd_tol ((gd_four (gd_ed b0 ht.r0 ht.r4) (gd_ed b0 ht.s0 ht.s4) (gd_ed b2 ht.r0 ht.r4) (gd_ed b1 ht.s0 ht.s4)).mono (by decide) (by decide))
    · exact gd_tol ((gd_bl _).mono (by decide) (by decide))
    · exact gd_tol ((gd_bl _).mono (by decide) (by decide))
    · exact gd_tol ((gd_four gd_mk gd_mk gd_mk gd_mk).mono (by decide) (by decide))
theorem e_corners {t : Tl} (h : t.Ok) (q : Q (fourC t)) : tf_corners_of ξ [t.D] Q :=
  ⟨rfl, e_needT (pd_T t) (need h) fun _ => ⟨rfl, rfl, e_stepped h.r0 h.r4 ⟨rfl, e_stepped h.s0 h.s4 ⟨rfl, e_stepped h.s0 h.s4 ⟨szN 4, q⟩⟩⟩⟩⟩
/-! ### any value -/
section
variable {x : D}
theorem x_tile {T : TF} {i : Nat} (v : Pd x) (q : Q (due i x)) {X : DX → Prop} {P : D → Prop} (c1 : ∀ d, Q (bad "tile" d) → X ⟨"BadTile", [("thing", d)]⟩) (c3 : ∀ d, Q (tol d) → P d)
    (h1 : isT x = false → X ⟨"BadTile", [("thing", x)]⟩ → T X [x] P) (h2 : ∀ t : Tl, t.Ok → x = t.D → (∀ d, due i t.D = tol d → P d) → T X [x] P) : T X [x] P := by
  cases h : isT x with
  | false =>
    refine h1 h (c1 x ?_)
    unfold due at q
    rw [h] at q
    exact q
  | true =>
    obtain ⟨t, rfl, ht⟩ := isT_of h
    exact h2 t ht rfl fun d e => c3 d (by rw [← e]; exact q)
theorem nope {p : Prop} {b : Bool} (h : b = false) : b = true → p := fun z => by rw [h] at z; cases z
theorem due_t {t : Tl} (h : t.Ok) {i : Nat} : due i t.D = (match i with
  | 0 => tol (fourC t)
  | 1 => tol (.tup (eds t))
  | 2 => tol (.bl (thk t.r t.s))
  | 3 => tol (.bl (decide (t.k.sum = 1)))
  | _ => tol (.tup (mk4 t))) := by
  unfold due
  rw [h.isT]
  rfl
theorem X0 (v : Pd x) (q : Q (due 0 x)) {X : DX → Prop} {P : D → Prop} (c1 : ∀ d, Q (bad "tile" d) → X ⟨"BadTile", [("thing", d)]⟩) (c3 : ∀ d, Q (tol d) → P d) : tf_corners_of X [x] P :=
  x_tile (i := 0) v q c1 c3 (fun h k => ⟨rfl, e_needT v (fun _ => k) (nope h)⟩) fun t ht e k => by
    subst e
    exact e_corners ht (k _ (due_t ht))
theorem X1 (v : Pd x) (q : Q (due 1 x)) {X : DX → Prop} {P : D → Prop} (c1 : ∀ d, Q (bad "tile" d) → X ⟨"BadTile", [("thing", d)]⟩) (c3 : ∀ d, Q (tol d) → P d) : tf_edges_of X [x] P :=
  x_tile (i := 1) v q c1 c3 (fun h k => ⟨rfl, e_needT v (fun _ => k) (nope h)⟩) fun t ht e k => by
    subst e
    exact e_edges ht (k _ (due_t ht))
theorem X2 (v : Pd x) (q : Q (due 2 x)) {X : DX → Prop} {P : D → Prop} (c1 : ∀ d, Q (bad "tile" d) → X ⟨"BadTile", [("thing", d)]⟩) (c3 : ∀ d, Q (tol d) → P d) : tf_is_thick X [x] P :=
  x_tile (i := 2) v q c1 c3 (fun h k => ⟨rfl, e_needT v (fun _ => k) (nope h)⟩) fun t ht e k => by
    subst e
    exact e_thick ht (k _ (due_t ht))
theorem X3 (v : Pd x) (q : Q (due 3 x)) {X : DX → Prop} {P : D → Prop} (c1 : ∀ d, Q (bad "tile" d) → X ⟨"BadTile", [("thing", d)]⟩) (c3 : ∀ d, Q (tol d) → P d) : tf_is_low X [x] P :=
  x_tile (i := 3) v q c1 c3 (fun h k => ⟨rfl, e_needT v (fun _ => k) (nope h)⟩) fun t ht e k => by
    subst e
    exact e_low ht (k _ (due_t ht))
theorem X4 (v : Pd x) (q : Q (due 4 x)) {X : DX → Prop} {P : D → Prop} (c1 : ∀ d, Q (bad "tile" d) → X ⟨"BadTile", [("thing", d)]⟩) (c3 : ∀ d, Q (tol d) → P d) : tf_marks_of X [x] P :=
  x_tile (i := 4) v q c1 c3 (fun h k => ⟨rfl, e_needT v (fun _ => k) (nope h)⟩) fun t ht e k => by
    subst e
    exact e_marks ht (k _ (due_t ht))
end
end K16
set_option Elab.async false
set_option linter.all false
set_option maxHeartbeats 400000
set_option maxRecDepth 100000
namespace K16
open PySem PySem.Spec L2 DL
variable {ξ : XT} {Q : D → Prop}
theorem st7 {x : D} {T : TDS} {n : Nat} (h : T (fun x _ => ξ x) { nx := fun _ => Q .non, rt := Q } (startD n [x])) : tfOf n T ξ [x] Q := h
theorem st73 {x y z : D} {T : TDS} {n : Nat} (h : T (fun x _ => ξ x) { nx := fun _ => Q .non, rt := Q } (startD n [x, y, z])) : tfOf n T ξ [x, y, z] Q := h
theorem szL (n : Nat) (h : n ≤ 1000 := by decide) : n < sizeLine := by rw [sizeLine_eq]; omega
section
variable {x : D} {De : DEnds} {s1 s2 s3 s4 s5 s6 s7 s8 s9 : Slot} {ζ : XW} {U : TDS}
theorem a1 (v : Pd x) (h : U ζ De [.d x, s1, s2, s3, s4, s5, s6, s7, s8, s9]) : dSeq (dIfS (dtNot (dTest (dCall 2 tf__law_same (dCons (dTup (dCons (dCall 1 tf_is_tile_row (dCons (dVar 0) dNil)) (dCons (dCallK 1 1 [0] tf_is_tile_row (dCons (dVar 0) dNil)) dNil))) (dCons (dTup (dCons (dCall 1 tf__law_is_tile (dCons (dVar 0) dNil)) (dCons (dCall 1 tf__law_is_tile (dCons (dVar 0) dNil)) dNil))) dNil)))))
    (dRet (dC (.bl false)))
    dNext) U ζ De [.d x, s1, s2, s3, s4, s5, s6, s7, s8, s9] :=
  ⟨rfl, e_isT v ⟨⟨rfl, rfl⟩, e_isT v ⟨szN 2, rfl, e_lit v ⟨rfl, e_lit v ⟨szN 2, rfl, e_same two_bl h⟩⟩⟩⟩⟩
abbrev B5s (x : D) : List D := [bad "tile" x, bad "tile" x, bad "tile" x, bad "tile" x, bad "tile" x]
theorem a2 (h : U ζ De [.d x, .own (B5s x), s2, s3, s4, s5, s6, s7, s8, s9]) : dSeq (dOwn (lRep (dLst (dCons (dTup (dCons (dC (.str "tile")) (dCons (dVar 0) (dCons (dC (.bl false)) dNil)))) dNil)) (dC (.int 5))) 1) U ζ De [.d x, s1, s2, s3, s4, s5, s6, s7, s8, s9] :=
  ⟨szN 3, szN 1, ⟨by decide, by decide, szN 5⟩, h⟩
section
variable {t : Tl}
theorem b1 (h : U ζ De [.d t.D, s1, .d t.k.D, .d (.int t.r), .d (.int t.s), s5, s6, s7, s8, s9]) : dSeq (dAsg (dVar 0) (dgTup 3 (dgCons (dgName 2) (dgCons (dgName 3) (dgCons (dgName 4) dgNil))))) U ζ De [.d t.D, s1, s2, s3, s4, s5, s6, s7, s8, s9] := ⟨rfl, h⟩
theorem b2 (ht : t.Ok) (h : ∀ s6, U ζ De [.d t.D, s1, s2, s3, s4, .d (.tup (eds t)), s6, s7, s8, s9]) : dSeq (dAsg (dCB gTuple (dCons (dLc (dCall 1 tf__law_borders (dCons (dVar 0) dNil)) 6 dYes (dBin gIx (dVar 6) (dC (.int 0)))) dNil)) (dgName 5)) U ζ De [.d t.D, s1, s2, s3, s4, s5, s6, s7, s8, s9] :=
  ⟨rfl, e_borders ht ⟨szN 4, h _⟩⟩
theorem b3 (ht : t.Ok) (h : U ζ De [.d t.D, s1, .d t.k.D, .d (.int t.r), .d (.int t.s), s5, s6, .d (fourC t), s8, s9]) : dSeq (dAsg (dTup (dCons (dVar 2) (dCons (dCall 3 tf__law_step (dCons (dVar 2) (dCons (dVar 3) (dCons (dC (.int 1)) dNil)))) (dCons (dCall 3 tf__law_step (dCons (dVar 2) (dCons (dVar 4) (dCons (dC (.int 1)) dNil)))) (dCons (dCall 3 tf__law_step (dCons (dCall 3 tf__law_step (dCons (dVar 2) (dCons (dVar 3) (dCons (dC (.int 1)) dNil)))) (dCons (dVar 4) (dCons (dC (.int 1)) dNil)))) dNil))))) (dgName 7)) U ζ De [.d t.D, s1, .d t.k.D, .d (.int t.r), .d (.int t.s), s5, s6, s7, s8, s9] :=
  ⟨rfl, e_lstep ht.r0 ht.r4 ⟨rfl, e_lstep ht.s0 ht.s4 ⟨rfl, e_lstep ht.r0 ht.r4 ⟨rfl, e_lstep ht.s0 ht.s4 ⟨szN 4, h⟩⟩⟩⟩⟩
theorem b4 (h : U ζ De [.d t.D, .own [tol (fourC t), tol (.tup (eds t)), tol (.bl (thk t.r t.s)), tol (.bl (decide (t.k.sum = 1)))], .d t.k.D, .d (.int t.r), .d (.int t.s), .d (.tup (eds t)), s6, .d (fourC t), s8, s9]) : dSeq (dOwn (lLst (dCons (dTup (dCons (dC (.str "told")) (dCons (dVar 7) dNil))) (dCons (dTup (dCons (dC (.str "told")) (dCons (dVar 5) dNil))) (dCons (dTup (dCons (dC (.str "told")) (dCons (dBin (gIn false) (dBin gSub (dVar 4) (dVar 3)) (dTup (dCons (dC (.int 1)) (dCons (dC (.int 4)) dNil)))) dNil))) (dCons (dTup (dCons (dC (.str "told")) (dCons (dBin gEq (dCB gSum (dCons (dVar 2) dNil)) (dC (.int 1))) dNil))) dNil))))) 1) U ζ De [.d t.D, s1, .d t.k.D, .d (.int t.r), .d (.int t.s), .d (.tup (eds t)), s6, .d (fourC t), s8, s9] :=
  ⟨szN 2, szN 2, szN 2, szN 2, szN 2, szN 4, h⟩
theorem b5 (ht : t.Ok) {l : List D} (hl : l.length = 4) (h : ∀ s8, De.nx [.d t.D, .own (l ++ [tol (.tup (mk4 t))]), s2, s3, s4, .d (.tup (eds t)), s6, s7, s8, s9]) : dApp 1 (dTup (dCons (dC (.str "told")) (dCons (dCB gTuple (dCons (dLcV 5 8 dYes (dCall 2 tf__law_mark (dCons (dVar 0) (dCons (dVar 8) dNil)))) dNil)) dNil))) ζ De [.d t.D, .own l, s2, s3, s4, .d (.tup (eds t)), s6, s7, s8, s9] :=
  ⟨szN 4, rfl, e_lmark ht (i := 0) (by decide) ⟨rfl, e_lmark ht (i := 1) (by decide) ⟨rfl, e_lmark ht (i := 2) (by decide) ⟨rfl, e_lmark ht (i := 3) (by decide) ⟨szN 2, by rw [hl]; exact szL 4, h _⟩⟩⟩⟩⟩
end
abbrev BT : TDS := (dSeq (dAsg (dVar 0) (dgTup 3 (dgCons (dgName 2) (dgCons (dgName 3) (dgCons (dgName 4) dgNil)))))
    (dSeq (dAsg (dCB gTuple (dCons (dLc (dCall 1 tf__law_borders (dCons (dVar 0) dNil)) 6 dYes (dBin gIx (dVar 6) (dC (.int 0)))) dNil)) (dgName 5))
    (dSeq (dAsg (dTup (dCons (dVar 2) (dCons (dCall 3 tf__law_step (dCons (dVar 2) (dCons (dVar 3) (dCons (dC (.int 1)) dNil)))) (dCons (dCall 3 tf__law_step (dCons (dVar 2) (dCons (dVar 4) (dCons (dC (.int 1)) dNil)))) (dCons (dCall 3 tf__law_step (dCons (dCall 3 tf__law_step (dCons (dVar 2) (dCons (dVar 3) (dCons (dC (.int 1)) dNil)))) (dCons (dVar 4) (dCons (dC (.int 1)) dNil)))) dNil))))) (dgName 7))
    (dSeq (dOwn (lLst (dCons (dTup (dCons (dC (.str "told")) (dCons (dVar 7) dNil))) (dCons (dTup (dCons (dC (.str "told")) (dCons (dVar 5) dNil))) (dCons (dTup (dCons (dC (.str "told")) (dCons (dBin (gIn false) (dBin gSub (dVar 4) (dVar 3)) (dTup (dCons (dC (.int 1)) (dCons (dC (.int 4)) dNil)))) dNil))) (dCons (dTup (dCons (dC (.str "told")) (dCons (dBin gEq (dCB gSum (dCons (dVar 2) dNil)) (dC (.int 1))) dNil))) dNil))))) 1)
    (dApp 1 (dTup (dCons (dC (.str "told")) (dCons (dCB gTuple (dCons (dLcV 5 8 dYes (dCall 2 tf__law_mark (dCons (dVar 0) (dCons (dVar 8) dNil)))) dNil)) dNil))))))))
theorem bt {t : Tl} (ht : t.Ok) (h : ∀ s2 s3 s4 s5 s6 s7 s8, De.nx [.d t.D, .own (dueT t), s2, s3, s4, s5, s6, s7, s8, s9]) : BT ζ De [.d t.D, s1, s2, s3, s4, s5, s6, s7, s8, s9] := by
  unfold BT
  refine b1 ?_
  refine b2 ht fun s6 => ?_
  refine b3 ht ?_
  refine b4 ?_
  exact b5 ht rfl fun s8 => h _ _ _ _ _ _ _
theorem a3 (v : Pd x) (h : ∀ s2 s3 s4 s5 s6 s7 s8, U ζ De [.d x, .own (dueA x), s2, s3, s4, s5, s6, s7, s8, s9]) : dSeq (dIfS (dTest (dCall 1 tf__law_is_tile (dCons (dVar 0) dNil))) BT dNext) U ζ De [.d x, .own (B5s x), s2, s3, s4, s5, s6, s7, s8, s9] := by
  refine ⟨rfl, e_lit v ?_⟩
  cases hc : isT x with
  | false =>
    rw [dueA_no hc] at h
    exact h _ _ _ _ _ _ _
  | true =>
    obtain ⟨t, rfl, ht⟩ := isT_of hc
    rw [dueA_T ht] at h
    exact bt (De := { De with nx := U ζ De }) ht h
theorem a4 {l : List D} (h : U ζ De [.d x, .d (.lst l), s2, s3, s4, s5, s6, s7, s8, s9]) : dFreeze 1 U ζ De [.d x, .own l, s2, s3, s4, s5, s6, s7, s8, s9] := h
theorem own9 {T : TDE} {d : D} (k : ∀ P : D → Prop, P d → T ζ [.d x, s1, s2, s3, s4, s5, s6, s7, s8, s9] P) (h : U ζ De [.d x, s1, s2, s3, s4, s5, s6, s7, s8, .own [d]]) : dSeq (dOwn (lLst (dCons T dNil)) 9) U ζ De [.d x, s1, s2, s3, s4, s5, s6, s7, s8, s9] := k _ ⟨szN 1, h⟩
theorem app9 {T : TDE} {d : D} {l : List D} {n : Nat} (hl : l.length = n) (k : ∀ P : D → Prop, P d → T ζ [.d x, s1, s2, s3, s4, s5, s6, s7, s8, .own l] P) (h : U ζ De [.d x, s1, s2, s3, s4, s5, s6, s7, s8, .own (l ++ [d])]) (hn : n ≤ 1000 := by decide) : dSeq (dApp 9 T) U ζ De [.d x, s1, s2, s3, s4, s5, s6, s7, s8, .own l] := k _ ⟨by rw [hl]; exact szL n hn, h⟩
theorem fr9 {l : List D} (h : U ζ De [.d x, s1, s2, s3, s4, s5, s6, s7, s8, .d (.lst l)]) : dFreeze 9 U ζ De [.d x, s1, s2, s3, s4, s5, s6, s7, s8, .own l] := h
section
variable {P : D → Prop}
theorem t0 (v : Pd x) (h : P (due 0 x)) : dLam 3 T__law_told (dCallX 1 tf_corners_of (dCons (dVar 0) dNil)) ζ [.d x, s1, s2, s3, s4, s5, s6, s7, s8, s9] P := e_told fun X _ c1 _ c3 => ⟨rfl, X0 v h c1 c3⟩
theorem t1 (v : Pd x) (h : P (due 1 x)) : dLam 3 T__law_told (dCallX 1 tf_edges_of (dCons (dVar 0) dNil)) ζ [.d x, s1, s2, s3, s4, s5, s6, s7, s8, s9] P := e_told fun X _ c1 _ c3 => ⟨rfl, X1 v h c1 c3⟩
theorem t2 (v : Pd x) (h : P (due 2 x)) : dLam 3 T__law_told (dCallX 1 tf_is_thick (dCons (dVar 0) dNil)) ζ [.d x, s1, s2, s3, s4, s5, s6, s7, s8, s9] P := e_told fun X _ c1 _ c3 => ⟨rfl, X2 v h c1 c3⟩
theorem t3 (v : Pd x) (h : P (due 3 x)) : dLam 3 T__law_told (dCallX 1 tf_is_low (dCons (dVar 0) dNil)) ζ [.d x, s1, s2, s3, s4, s5, s6, s7, s8, s9] P := e_told fun X _ c1 _ c3 => ⟨rfl, X3 v h c1 c3⟩
theorem t4 (v : Pd x) (h : P (due 4 x)) : dLam 3 T__law_told (dCallX 1 tf_marks_of (dCons (dVar 0) dNil)) ζ [.d x, s1, s2, s3, s4, s5, s6, s7, s8, s9] P := e_told fun X _ c1 _ c3 => ⟨rfl, X4 v h c1 c3⟩
theorem k0 (v : Pd x) (h : P (due 0 x)) : dLam 3 T__law_told (dCallKX 1 1 [0] tf_corners_of (dCons (dVar 0) dNil)) ζ [.d x, s1, s2, s3, s4, s5, s6, s7, s8, s9] P := e_told fun X _ c1 _ c3 => ⟨⟨rfl, rfl⟩, X0 v h c1 c3⟩
theorem k1 (v : Pd x) (h : P (due 1 x)) : dLam 3 T__law_told (dCallKX 1 1 [0] tf_edges_of (dCons (dVar 0) dNil)) ζ [.d x, s1, s2, s3, s4, s5, s6, s7, s8, s9] P := e_told fun X _ c1 _ c3 => ⟨⟨rfl, rfl⟩, X1 v h c1 c3⟩
theorem k2 (v : Pd x) (h : P (due 2 x)) : dLam 3 T__law_told (dCallKX 1 1 [0] tf_is_thick (dCons (dVar 0) dNil)) ζ [.d x, s1, s2, s3, s4, s5, s6, s7, s8, s9] P := e_told fun X _ c1 _ c3 => ⟨⟨rfl, rfl⟩, X2 v h c1 c3⟩
theorem k3 (v : Pd x) (h : P (due 3 x)) : dLam 3 T__law_told (dCallKX 1 1 [0] tf_is_low (dCons (dVar 0) dNil)) ζ [.d x, s1, s2, s3, s4, s5, s6, s7, s8, s9] P := e_told fun X _ c1 _ c3 => ⟨⟨rfl, rfl⟩, X3 v h c1 c3⟩
theorem k4 (v : Pd x) (h : P (due 4 x)) : dLam 3 T__law_told (dCallKX 1 1 [0] tf_marks_of (dCons (dVar 0) dNil)) ζ [.d x, s1, s2, s3, s4, s5, s6, s7, s8, s9] P := e_told fun X _ c1 _ c3 => ⟨⟨rfl, rfl⟩, X4 v h c1 c3⟩
end
end
theorem twice_show {x : D} (v : Vd 12400 5 x) : showR (.lst (dueA x ++ dueA x)) := (gd_lst (n := 10) (w := 38000) (k := 6) (ds := dueA x ++ dueA x) (by
  have z : ∀ d ∈ dueA x, Gd 38000 6 d := by
    unfold dueA
    simp only [List.mem_cons, List.not_mem_nil, or_false, forall_eq_or_imp, forall_eq]
    exact ⟨due_gd v, due_gd v, due_gd v, due_gd v, due_gd v⟩
  intro d m
  exact (List.mem_append.mp m).elim (z d) (z d)) (by unfold dueA; exact Nat.le_refl 10)).show (by decide) (by decide)
theorem e_alone {x : D} (v : Vd 12400 5 x) (q : Q (.bl true)) : tf__law_is_alone_right ξ [x] Q := by
  have p := v.pd
  unfold tf__law_is_alone_right
  apply st7
  rw [show startD 10 [x] = [.d x, .un, .un, .un, .un, .un, .un, .un, .un, .un] from rfl]
  unfold T__law_is_alone_right
  refine a1 p ?_
  refine a2 ?_
  refine a3 p fun s2 s3 s4 s5 s6 s7 s8 => ?_
  refine a4 ?_
  refine own9 (fun P h => t0 p h) ?_
  refine app9 (n := 1) rfl (fun P h => t1 p h) ?_
  refine app9 (n := 2) rfl (fun P h => t2 p h) ?_
  refine app9 (n := 3) rfl (fun P h => t3 p h) ?_
  refine app9 (n := 4) rfl (fun P h => t4 p h) ?_
  refine app9 (n := 5) rfl (fun P h => k0 p h) ?_
  refine app9 (n := 6) rfl (fun P h => k1 p h) ?_
  refine app9 (n := 7) rfl (fun P h => k2 p h) ?_
  refine app9 (n := 8) rfl (fun P h => k3 p h) ?_
  refine app9 (n := 9) rfl (fun P h => k4 p h) ?_
  refine fr9 ?_
  exact ⟨szN 10, rfl, e_same (twice_show v) q⟩
end K16
set_option Elab.async false
set_option linter.all false
set_option maxHeartbeats 400000
set_option maxRecDepth 100000
namespace K16
open PySem PySem.Spec L2 DL
variable {ξ : XT} {Q : D → Prop}
/-! ### two values, and an edge -/
def dueF (x y : D) : D := if isT x = true then (if isT y = true then tol (.bl (fit (toTl x) (toTl y))) else bad "tile" y) else bad "tile" x
def lefO (t : Tl) (e : D) : Option Nat → D
  | some i => tol (.bl (lfB t.r t.s i))
  | none => bad "edge" e
def dueE (x e : D) : D := if isT x = true then lefO (toTl x) e (plX (toTl x) e) else bad "tile" x
theorem dueF_gd {x y : D} (v : Vd 12400 5 x) (u : Vd 12400 5 y) : Gd 38000 6 (dueF x y) := by
  unfold dueF
  split
  · split
    · exact gd_tol ((gd_bl _).mono (by decide) (by decide))
    · exact gd_bad u.g (by decide) (cs_of _)
  · exact gd_bad v.g (by decide) (cs_of _)
theorem dueE_gd {x e : D} (v : Vd 12400 5 x) (u : Vd 12400 5 e) : Gd 38000 6 (dueE x e) := by
  unfold dueE lefO
  split
  · split
    · exact gd_tol ((gd_bl _).mono (by decide) (by decide))
    · exact gd_bad u.g (by decide) (cs_of _)
  · exact gd_bad v.g (by decide) (cs_of _)
theorem X5 {x y : D} (v : Pd x) (u : Pd y) (q : Q (dueF x y)) {X : DX → Prop} {P : D → Prop} (c1 : ∀ d, Q (bad "tile" d) → X ⟨"BadTile", [("thing", d)]⟩) (c3 : ∀ d, Q (tol d) → P d) : tf_does_fit X [x, y] P := by
  unfold dueF at q
  cases h : isT x with
  | false =>
    rw [h] at q
    exact ⟨rfl, e_needT v (fun _ => c1 x q) (nope h)⟩
  | true =>
    rw [h] at q
    cases h2 : isT y with
    | false =>
      rw [h2] at q
      exact ⟨rfl, e_needT v (fun z => by rw [h] at z; cases z) fun _ => ⟨rfl, e_needT u (fun _ => c1 y q) (nope h2)⟩⟩
    | true =>
      rw [h2] at q
      obtain ⟨t, rfl, ht⟩ := isT_of h
      obtain ⟨w, rfl, hw⟩ := isT_of h2
      exact e_fit ht hw (c3 _ q)
theorem X6 {x e : D} (v : Pd x) (u : Pd e) (q : Q (dueE x e)) {X : DX → Prop} {P : D → Prop} (c1 : ∀ d, Q (bad "tile" d) → X ⟨"BadTile", [("thing", d)]⟩) (c2 : ∀ d, Q (bad "edge" d) → X ⟨"BadEdge", [("thing", d)]⟩) (c3 : ∀ d, Q (tol d) → P d) : tf_is_left X [x, e] P := by
  unfold dueE at q
  cases h : isT x with
  | false =>
    rw [h] at q
    exact ⟨rfl, e_needT v (fun _ => c1 x q) (nope h)⟩
  | true =>
    rw [h] at q
    obtain ⟨t, rfl, ht⟩ := isT_of h
    have q : Q (lefO t e (plX t e)) := q
    refine e_isleft ht u (fun hn => ?_) fun i hi _ => ?_
    · rw [hn] at q
      exact c2 _ q
    · rw [hi] at q
      exact c3 _ q
/-! ### the edges that look the same -/
theorem pl_E {t : Tl} {x : Ed} {i : Nat} (h : pl t x = some i) : t.E i = x := by
  unfold pl at h
  split at h
  · rename_i e
    cases h
    exact e
  · split at h
    · rename_i e
      cases h
      exact e
    · split at h
      · rename_i e
        cases h
        exact e
      · split at h
        · rename_i e
          cases h
          exact e
        · cases h
theorem plX_of {t : Tl} {e : D} {i : Nat} (h : plX t e = some i) : e = eD (t.E i) ∧ i < 4 := by
  unfold plX at h
  split at h
  · rename_i he
    obtain ⟨x, rfl, _⟩ := isE_of he
    have h : pl t x = some i := h
    exact ⟨by rw [pl_E h], pl_lt h⟩
  · cases h
theorem same_pl {t : Tl} (ht : t.Ok) {e : D} (p : plainR e = true) {i : Nat} (hi : i < 4) : decide ((toP (eD (t.E i))).shown = (toP e).shown) = decide (plX t e = some i) := by
  rw [Bool.eq_iff_iff, decide_eq_true_eq, decide_eq_true_eq]
  constructor
  · intro h
    have z : L e = L (eD (t.E i)) := by
      show cs _ = cs _
      rw [h]
    rw [cut_edge p z, plX_E ht, pl_self ht hi]
  · intro h
    rw [(plX_of h).1]
section
variable {t : Tl} {e y : D} {De : DEnds} {ζ : XW} {U : TDS} {s1 s2 s3 s4 s5 s6 s7 : Slot}
theorem show_E {t : Tl} {i : Nat} (b : Bk 240 t.k) (ht : t.Ok) : showR (eD (t.E i)) := by
  have b0 : Bk 250 t.k := b.mono
  have b1 : Bk 250 (t.k.up t.r 1) := b.up.mono
  have b2 : Bk 250 (t.k.up t.s 1) := b.up.mono
  unfold Tl.E
  split
  · exact (gd_ed b0 ht.r0 ht.r4).show (by decide) (by decide)
  · exact (gd_ed b0 ht.s0 ht.s4).show (by decide) (by decide)
  · exact (gd_ed b2 ht.r0 ht.r4).show (by decide) (by decide)
  · exact (gd_ed b1 ht.s0 ht.s4).show (by decide) (by decide)
abbrev TE : TDT := dTest (dBin gEq (dCB gReprR (dCons (dBin gIx (dVar 6) (dC (.int 0))) dNil)) (dCB gReprR (dCons (dVar 2) dNil)))
theorem lc_hits (ht : t.Ok) (b : Bk 240 t.k) (se : showR e) : ∀ {is : List Nat} {Q' : List D → Prop}, (∀ i ∈ is, i < 4) → Q' ((is.filter fun i => decide (plX t e = some i)).map (bo t)) → lcD (dgName 6) TE (dVar 6) [.d t.D, s1, .d e, s3, s4, s5, .un, s7] (is.map (bo t)) Q'
  | [], Q', _, q => q
  | i :: is, Q', h, q => by
    have hi := h i List.mem_cons_self
    have h2 := fun j m => h j (List.mem_cons_of_mem _ m)
    refine ⟨show_E b ht, se, ?_⟩
    show (if decide ((toP (eD (t.E i))).shown = (toP e).shown) = true then lcD (dgName 6) TE (dVar 6) [.d t.D, s1, .d e, s3, s4, s5, .un, s7] (is.map (bo t)) (fun ys => Q' (bo t i :: ys)) else lcD (dgName 6) TE (dVar 6) [.d t.D, s1, .d e, s3, s4, s5, .un, s7] (is.map (bo t)) Q')
    rw [same_pl ht se.1 hi]
    cases hb : decide (plX t e = some i) with
    | true =>
      rw [List.filter_cons_of_pos (by rw [hb])] at q
      exact lc_hits ht b se (Q' := fun ys => Q' (bo t i :: ys)) h2 q
    | false =>
      rw [List.filter_cons_of_neg (by rw [hb]; decide)] at q
      exact lc_hits ht b se h2 q
def hits (t : Tl) (e : D) : List D := match plX t e with
  | some i => [bo t i]
  | none => []
theorem hits_eq : ([0, 1, 2, 3].filter fun i => decide (plX t e = some i)).map (bo t) = hits t e := by
  unfold hits
  cases h : plX t e with
  | none => rfl
  | some i =>
    rcases four (plX_of h).2 with rfl | rfl | rfl | rfl <;> rfl
theorem c1 (ht : t.Ok) (u : Pd y) (h : U ζ De [.d t.D, .d y, .d e, .d (dueF t.D y), s4, s5, s6, s7]) : dSeq (dAsg (dIf (dTest (dCall 1 tf__law_is_tile (dCons (dVar 1) dNil))) (dTup (dCons (dC (.str "told")) (dCons (dCall 2 tf__law_do_fit (dCons (dVar 0) (dCons (dVar 1) dNil))) dNil))) (dTup (dCons (dC (.str "tile")) (dCons (dVar 1) (dCons (dC (.bl false)) dNil))))) (dgName 3)) U ζ De [.d t.D, .d y, .d e, s3, s4, s5, s6, s7] := by
  unfold dueF at h
  rw [ht.isT] at h
  refine ⟨rfl, e_lit u ?_⟩
  cases hc : isT y with
  | false =>
    rw [hc] at h
    exact ⟨szN 3, h⟩
  | true =>
    rw [hc] at h
    obtain ⟨w, rfl, hw⟩ := isT_of hc
    exact ⟨rfl, e_lfit ht hw ⟨szN 2, h⟩⟩
theorem c2 (ht : t.Ok) (b : Bk 240 t.k) (se : showR e) (h : ∀ s6, U ζ De [.d t.D, s1, .d e, s3, s4, .d (.lst (hits t e)), s6, s7]) : dSeq (dAsg (dLc (dCall 1 tf__law_borders (dCons (dVar 0) dNil)) 6 (dTest (dBin gEq (dCB gReprR (dCons (dBin gIx (dVar 6) (dC (.int 0))) dNil)) (dCB gReprR (dCons (dVar 2) dNil)))) (dVar 6)) (dgName 5)) U ζ De [.d t.D, s1, .d e, s3, s4, s5, s6, s7] := by
  refine ⟨rfl, e_borders ht ⟨szN 4, ?_⟩⟩
  refine lc_hits (is := [0, 1, 2, 3]) (Q' := fun ys => U ζ De [.d t.D, s1, .d e, s3, s4, .d (.lst ys), s6, s7]) ht b se (by simp only [List.mem_cons, List.not_mem_nil, or_false, forall_eq_or_imp, forall_eq]; decide) ?_
  rw [hits_eq]
  exact h _
theorem c3 (h : U ζ De [s1, s2, .d e, s3, .d (bad "edge" e), s5, s6, s7]) : dSeq (dAsg (dTup (dCons (dC (.str "edge")) (dCons (dVar 2) (dCons (dC (.bl false)) dNil)))) (dgName 4)) U ζ De [s1, s2, .d e, s3, s4, s5, s6, s7] := ⟨szN 3, h⟩
theorem nn_nil {P : D → Prop} (q : P (.bl false)) : gNe (.lst []) (.lst []) P := ⟨⟨by decide +kernel, by decide +kernel⟩, q⟩
theorem nn_bo {i : Nat} {P : D → Prop} (q : P (.bl true)) : gNe (.lst [bo t i]) (.lst []) P := by
  refine ⟨⟨?_, by decide +kernel⟩, ?_⟩
  · simp [eqOk, bo, eD, R5.D, DL.plain, plains, toP, toPs, SeqAt.shaped, PyData.canLay0, PyData.canLayAll0, PyData.depth, PyData.depthAll]
  · have e : PyData.eqv (toP (.lst [bo t i])) (toP (.lst [])) = false := by
      simp [toP, toPs, PyData.eqv, PyData.eqvAll]
    rw [e]
    exact q
theorem ifne {A : TDS} {l : List D} {b : Bool} {e0 e1 e2 e3 e4 e6 e7 : Slot} (hn : ∀ P : D → Prop, P (.bl b) → gNe (.lst l) (.lst []) P) (q : if b = true then A ζ De [e0, e1, e2, e3, e4, .d (.lst l), e6, e7] else De.nx [e0, e1, e2, e3, e4, .d (.lst l), e6, e7]) : dIfS (dTest (dBin gNe (dVar 5) (dLst dNil))) A dNext ζ De [e0, e1, e2, e3, e4, .d (.lst l), e6, e7] :=
  ⟨szN 0, hn _ q⟩
abbrev AL : TDS := (dAsg (dTup (dCons (dC (.str "told")) (dCons (dCall 3 tf__law_is_lefthand (dCons (dBin gIx (dVar 2) (dC (.int 1))) (dCons (dBin gIx (dBin gIx (dVar 5) (dC (.int 0))) (dC (.int 1))) (dCons (dBin gIx (dBin gIx (dVar 5) (dC (.int 0))) (dC (.int 2))) dNil)))) dNil))) (dgName 4))
theorem c4 (ht : t.Ok) (h : De.nx [.d t.D, s1, .d e, s3, .d (dueE t.D e), .d (.lst (hits t e)), s6, s7]) : dIfS (dTest (dBin gNe (dVar 5) (dLst dNil))) AL dNext ζ De [.d t.D, s1, .d e, s3, .d (bad "edge" e), .d (.lst (hits t e)), s6, s7] := by
  unfold dueE at h
  rw [ht.isT, toTl_D] at h
  have h : De.nx [.d t.D, s1, .d e, s3, .d (lefO t e (plX t e)), .d (.lst (hits t e)), s6, s7] := h
  unfold hits at h ⊢
  cases hp : plX t e with
  | none =>
    rw [hp] at h
    exact ifne (b := false) (fun P q => nn_nil q) h
  | some i =>
    rw [hp] at h
    obtain ⟨he, hi⟩ := plX_of hp
    subst he
    refine ifne (b := true) (fun P q => nn_bo q) ?_
    exact ⟨rfl, e_lhE ht hi ⟨szN 2, h⟩⟩
end
section
variable {x y e : D} {De : DEnds} {ζ : XW} {U : TDS} {s1 s2 s3 s4 s5 s6 s7 : Slot}
abbrev CF : TDS := (dPar 3 4 (dCons (dTup (dCons (dC (.str "tile")) (dCons (dVar 0) (dCons (dC (.bl false)) dNil)))) (dCons (dTup (dCons (dC (.str "tile")) (dCons (dVar 0) (dCons (dC (.bl false)) dNil)))) dNil)))
abbrev CT : TDS := (dSeq (dAsg (dIf (dTest (dCall 1 tf__law_is_tile (dCons (dVar 1) dNil))) (dTup (dCons (dC (.str "told")) (dCons (dCall 2 tf__law_do_fit (dCons (dVar 0) (dCons (dVar 1) dNil))) dNil))) (dTup (dCons (dC (.str "tile")) (dCons (dVar 1) (dCons (dC (.bl false)) dNil))))) (dgName 3))
    (dSeq (dAsg (dLc (dCall 1 tf__law_borders (dCons (dVar 0) dNil)) 6 (dTest (dBin gEq (dCB gReprR (dCons (dBin gIx (dVar 6) (dC (.int 0))) dNil)) (dCB gReprR (dCons (dVar 2) dNil)))) (dVar 6)) (dgName 5))
    (dSeq (dAsg (dTup (dCons (dC (.str "edge")) (dCons (dVar 2) (dCons (dC (.bl false)) dNil)))) (dgName 4))
    (dIfS (dTest (dBin gNe (dVar 5) (dLst dNil))) AL dNext))))
theorem d1 (v : Vd 12400 5 x) (u : Pd y) (w : Vd 12400 5 e) (h : ∀ s5 s6, U ζ De [.d x, .d y, .d e, .d (dueF x y), .d (dueE x e), s5, s6, s7]) : dSeq (dIfS (dtNot (dTest (dCall 1 tf__law_is_tile (dCons (dVar 0) dNil)))) CF CT) U ζ De [.d x, .d y, .d e, s3, s4, s5, s6, s7] := by
  refine ⟨rfl, e_lit v.pd ?_⟩
  cases hc : isT x with
  | false =>
    unfold dueF dueE at h
    rw [hc] at h
    exact ⟨szN 3, szN 3, h _ _⟩
  | true =>
    obtain ⟨t, rfl, ht⟩ := isT_of hc
    show CT ζ { De with nx := U ζ De } [.d t.D, .d y, .d e, s3, s4, s5, s6, s7]
    unfold CT
    refine c1 ht u ?_
    refine c2 ht (bk_T v) (w.g.show (by decide) (by decide)) fun s6 => ?_
    refine c3 ?_
    exact c4 ht (h _ _)
theorem own7 {T : TDE} {d : D} {s0 : Slot} (k : ∀ P : D → Prop, P d → T ζ [s0, s1, s2, s3, s4, s5, s6, s7] P) (h : U ζ De [s0, s1, s2, s3, s4, s5, s6, .own [d]]) : dSeq (dOwn (lLst (dCons T dNil)) 7) U ζ De [s0, s1, s2, s3, s4, s5, s6, s7] := k _ ⟨szN 1, h⟩
theorem app7 {T : TDE} {d : D} {s0 : Slot} {l : List D} {n : Nat} (hl : l.length = n) (k : ∀ P : D → Prop, P d → T ζ [s0, s1, s2, s3, s4, s5, s6, .own l] P) (h : U ζ De [s0, s1, s2, s3, s4, s5, s6, .own (l ++ [d])]) (hn : n ≤ 1000 := by decide) : dSeq (dApp 7 T) U ζ De [s0, s1, s2, s3, s4, s5, s6, .own l] := k _ ⟨by rw [hl]; exact szL n hn, h⟩
theorem fr7 {l : List D} {s0 : Slot} (h : U ζ De [s0, s1, s2, s3, s4, s5, s6, .d (.lst l)]) : dFreeze 7 U ζ De [s0, s1, s2, s3, s4, s5, s6, .own l] := h
section
variable {P : D → Prop}
theorem f0 (v : Pd x) (u : Pd y) (h : P (dueF x y)) : dLam 3 T__law_told (dCallX 2 tf_does_fit (dCons (dVar 0) (dCons (dVar 1) dNil))) ζ [.d x, .d y, s2, s3, s4, s5, s6, s7] P := e_told fun X _ c1 _ c3 => ⟨rfl, X5 v u h c1 c3⟩
theorem f1 (v : Pd x) (u : Pd y) (h : P (dueF x y)) : dLam 3 T__law_told (dCallKX 2 2 [1, 0] tf_does_fit (dCons (dVar 1) (dCons (dVar 0) dNil))) ζ [.d x, .d y, s2, s3, s4, s5, s6, s7] P := e_told fun X _ c1 _ c3 => ⟨⟨rfl, rfl⟩, X5 v u h c1 c3⟩
theorem f2 (v : Pd x) (u : Pd e) (h : P (dueE x e)) : dLam 3 T__law_told (dCallX 2 tf_is_left (dCons (dVar 0) (dCons (dVar 2) dNil))) ζ [.d x, s1, .d e, s3, s4, s5, s6, s7] P := e_told fun X _ c1 c2 c3 => ⟨rfl, X6 v u h c1 c2 c3⟩
theorem f3 (v : Pd x) (u : Pd e) (h : P (dueE x e)) : dLam 3 T__law_told (dCallKX 2 2 [1, 0] tf_is_left (dCons (dVar 2) (dCons (dVar 0) dNil))) ζ [.d x, s1, .d e, s3, s4, s5, s6, s7] P := e_told fun X _ c1 c2 c3 => ⟨⟨rfl, rfl⟩, X6 v u h c1 c2 c3⟩
end
end
theorem four_show {a b : D} (v : Gd 38000 6 a) (u : Gd 38000 6 b) : showR (.lst [a, a, b, b]) := (gd_lst (n := 4) (w := 38000) (k := 6) (ds := [a, a, b, b]) (by
  simp only [List.mem_cons, List.not_mem_nil, or_false, forall_eq_or_imp, forall_eq]
  exact ⟨v, v, u, u⟩) (Nat.le_refl 4)).show (by decide) (by decide)
theorem e_two {x y e : D} (v : Vd 12400 5 x) (u : Vd 12400 5 y) (w : Vd 12400 5 e) (q : Q (.bl true)) : tf__law_are_two_right ξ [x, y, e] Q := by
  unfold tf__law_are_two_right
  apply st73
  rw [show startD 8 [x, y, e] = [.d x, .d y, .d e, .un, .un, .un, .un, .un] from rfl]
  unfold T__law_are_two_right
  refine d1 v u.pd w fun s5 s6 => ?_
  refine own7 (fun P h => f0 v.pd u.pd h) ?_
  refine app7 (n := 1) rfl (fun P h => f1 v.pd u.pd h) ?_
  refine app7 (n := 2) rfl (fun P h => f2 v.pd w.pd h) ?_
  refine app7 (n := 3) rfl (fun P h => f3 v.pd w.pd h) ?_
  refine fr7 ?_
  exact ⟨szN 4, rfl, e_same (four_show (dueF_gd v u) (dueE_gd v w)) q⟩
end K16
set_option Elab.async false
set_option linter.all false
set_option maxHeartbeats 400000
set_option maxRecDepth 100000
namespace K16
open PySem PySem.Spec L2 DL
abbrev EE (s2 s3 s4 s5 s6 : Slot) : SE := [.un, .d .deck, s2, s3, s4, s5, s6]
abbrev BODY1 : TDS := (dIfS (dtNot (dTest (dCall 1 tf__law_are_neighbours_right (dCons (dCall 1 tf__law_drawn (dCons (dVar 1) dNil)) dNil))))
    (dRet (dC (.bl false)))
    dNext)
def BODY2 : TDS := (dSeq (dPar 3 4 (dCons (dCall 1 tf__law_drawn (dCons (dVar 1) dNil)) (dCons (dCall 1 tf__law_drawn (dCons (dVar 1) dNil)) dNil)))
    (dSeq (dAsg (dBin gIx (dCall 2 tf__law_pick (dCons (dVar 1) (dCons (dCall 1 tf__law_borders (dCons (dVar 3) dNil)) dNil))) (dC (.int 0))) (dgName 5))
    (dSeq (dIfS (dTest (dBin gEq (dCall 2 tf_draw (dCons (dVar 1) (dCons (dC (.int 4)) dNil))) (dC (.int 0))))
    (dAsg (dBin gIx (dCall 2 tf__law_pick (dCons (dVar 1) (dCons (dCall 1 tf__law_borders (dCons (dVar 4) dNil)) dNil))) (dC (.int 0))) (dgName 5))
    dNext)
    (dSeq (dPar3 3 4 5 (dCons (dCall 2 tf__law_maybe (dCons (dVar 1) (dCons (dVar 3) dNil))) (dCons (dCall 2 tf__law_maybe (dCons (dVar 1) (dCons (dVar 4) dNil))) (dCons (dCall 2 tf__law_maybe (dCons (dVar 1) (dCons (dVar 5) dNil))) dNil))))
    (dSeq (dAsg (dCB gReprR (dCons (dTup (dCons (dVar 3) (dCons (dVar 4) (dCons (dVar 5) dNil)))) dNil)) (dgName 6))
    (dSeq (dIfS (dtOr (dtNot (dTest (dCall 1 tf__law_is_alone_right (dCons (dVar 3) dNil)))) (dtNot (dTest (dCall 3 tf__law_are_two_right (dCons (dVar 3) (dCons (dVar 4) (dCons (dVar 5) dNil)))))))
    (dRet (dC (.bl false)))
    dNext)
    (dIfS (dtNot (dTest (dCall 2 tf__law_same (dCons (dCB gReprR (dCons (dTup (dCons (dVar 3) (dCons (dVar 4) (dCons (dVar 5) dNil)))) dNil)) (dCons (dVar 6) dNil)))))
    (dRet (dC (.bl false)))
    dNext)))))))
section
variable {De : DEnds} {ζ : XW} {U : TDS} {s2 s3 s4 s5 s6 : Slot} {t u : Tl} {x y w : D}
theorem l0 (h : De.nx (EE s2 s3 s4 s5 s6)) : BODY1 ζ De (EE s2 s3 s4 s5 s6) := ⟨rfl, e_drawn fun t g => ⟨rfl, e_neigh g.ok h⟩⟩
theorem l1 (h : ∀ t u, Dr t → Dr u → U ζ De (EE s2 (.d t.D) (.d u.D) s5 s6)) : dSeq (dPar 3 4 (dCons (dCall 1 tf__law_drawn (dCons (dVar 1) dNil)) (dCons (dCall 1 tf__law_drawn (dCons (dVar 1) dNil)) dNil))) U ζ De (EE s2 s3 s4 s5 s6) :=
  ⟨rfl, e_drawn fun t g => ⟨rfl, e_drawn fun u k => h t u g k⟩⟩
theorem mem4 {P : D → Prop} (h : ∀ i, P (bo t i)) : ∀ d ∈ [bo t 0, bo t 1, bo t 2, bo t 3], P d := by
  simp only [List.mem_cons, List.not_mem_nil, or_false, forall_eq_or_imp, forall_eq]
  exact ⟨h 0, h 1, h 2, h 3⟩
theorem l2 (ht : t.Ok) (h : ∀ i, U ζ De (EE s2 (.d t.D) s4 (.d (eD (t.E i))) s6)) : dSeq (dAsg (dBin gIx (dCall 2 tf__law_pick (dCons (dVar 1) (dCons (dCall 1 tf__law_borders (dCons (dVar 3) dNil)) dNil))) (dC (.int 0))) (dgName 5)) U ζ De (EE s2 (.d t.D) s4 s5 s6) :=
  ⟨rfl, e_borders ht ⟨rfl, e_pick (by show 0 < 4; decide) (by show 4 < 1000000000; decide) (mem4 fun i => h i)⟩⟩
theorem l2' (ht : u.Ok) (h : ∀ i, De.nx (EE s2 s3 (.d u.D) (.d (eD (u.E i))) s6)) : (dAsg (dBin gIx (dCall 2 tf__law_pick (dCons (dVar 1) (dCons (dCall 1 tf__law_borders (dCons (dVar 4) dNil)) dNil))) (dC (.int 0))) (dgName 5)) ζ De (EE s2 s3 (.d u.D) s5 s6) :=
  ⟨rfl, e_borders ht ⟨rfl, e_pick (by show 0 < 4; decide) (by show 4 < 1000000000; decide) (mem4 fun i => h i)⟩⟩
theorem l3 (g : Dr t) (k : Dr u) {i : Nat} (h : ∀ (v : Tl) (j : Nat), Dr v → U ζ De (EE s2 (.d t.D) (.d u.D) (.d (eD (v.E j))) s6)) : dSeq (dIfS (dTest (dBin gEq (dCall 2 tf_draw (dCons (dVar 1) (dCons (dC (.int 4)) dNil))) (dC (.int 0))))
    (dAsg (dBin gIx (dCall 2 tf__law_pick (dCons (dVar 1) (dCons (dCall 1 tf__law_borders (dCons (dVar 4) dNil)) dNil))) (dC (.int 0))) (dgName 5))
    dNext) U ζ De (EE s2 (.d t.D) (.d u.D) (.d (eD (t.E i))) s6) := by
  refine ⟨rfl, e_draw (by decide) (by decide) fun r r0 r1 => ?_⟩
  refine ifd (fun _ => ?_) (fun _ => ?_)
  · exact l2' (De := { De with nx := U ζ De }) k.ok fun j => h u j k
  · exact h t i g
theorem l4 (g : Dr t) (k : Dr u) {v : Tl} {j : Nat} (m : Dr v) (h : ∀ x y w, Vd 12400 5 x → Vd 12400 5 y → Vd 12400 5 w → U ζ De (EE s2 (.d x) (.d y) (.d w) s6)) : dSeq (dPar3 3 4 5 (dCons (dCall 2 tf__law_maybe (dCons (dVar 1) (dCons (dVar 3) dNil))) (dCons (dCall 2 tf__law_maybe (dCons (dVar 1) (dCons (dVar 4) dNil))) (dCons (dCall 2 tf__law_maybe (dCons (dVar 1) (dCons (dVar 5) dNil))) dNil)))) U ζ De (EE s2 (.d t.D) (.d u.D) (.d (eD (v.E j))) s6) :=
  ⟨rfl, e_maybeT g fun x vx => ⟨rfl, e_maybeT k fun y vy => ⟨rfl, e_maybeE m j fun w vw => h x y w vx vy vw⟩⟩⟩
theorem three_gd (vx : Vd 12400 5 x) (vy : Vd 12400 5 y) (vw : Vd 12400 5 w) : Gd 38000 6 (.tup [x, y, w]) := (gd_tup (n := 3) (w := 12400) (k := 5) (ds := [x, y, w]) (by
  simp only [List.mem_cons, List.not_mem_nil, or_false, forall_eq_or_imp, forall_eq]
  exact ⟨vx.g, vy.g, vw.g⟩) (Nat.le_refl 3)).mono (by decide) (by decide)
abbrev tx (x y w : D) : D := .str (toP (.tup [x, y, w])).shown
theorem l5 (g : Gd 38000 6 (.tup [x, y, w])) (h : U ζ De (EE s2 (.d x) (.d y) (.d w) (.d (tx x y w)))) : dSeq (dAsg (dCB gReprR (dCons (dTup (dCons (dVar 3) (dCons (dVar 4) (dCons (dVar 5) dNil)))) dNil)) (dgName 6)) U ζ De (EE s2 (.d x) (.d y) (.d w) s6) :=
  ⟨szN 3, g.show (by decide) (by decide), h⟩
theorem l6 (vx : Vd 12400 5 x) (vy : Vd 12400 5 y) (vw : Vd 12400 5 w) (h : U ζ De (EE s2 (.d x) (.d y) (.d w) s6)) : dSeq (dIfS (dtOr (dtNot (dTest (dCall 1 tf__law_is_alone_right (dCons (dVar 3) dNil)))) (dtNot (dTest (dCall 3 tf__law_are_two_right (dCons (dVar 3) (dCons (dVar 4) (dCons (dVar 5) dNil)))))))
    (dRet (dC (.bl false)))
    dNext) U ζ De (EE s2 (.d x) (.d y) (.d w) s6) := ⟨rfl, e_alone vx ⟨rfl, e_two vx vy vw h⟩⟩
theorem l7 (g : Gd 38000 6 (.tup [x, y, w])) (h : De.nx (EE s2 (.d x) (.d y) (.d w) (.d (tx x y w)))) : (dIfS (dtNot (dTest (dCall 2 tf__law_same (dCons (dCB gReprR (dCons (dTup (dCons (dVar 3) (dCons (dVar 4) (dCons (dVar 5) dNil)))) dNil)) (dCons (dVar 6) dNil)))))
    (dRet (dC (.bl false)))
    dNext) ζ De (EE s2 (.d x) (.d y) (.d w) (.d (tx x y w))) :=
  ⟨szN 3, g.show (by decide) (by decide), rfl, e_same ((gd_str g.ln g.cs).show (by decide) (by decide)) h⟩
theorem e_body {t2 t3 t4 t5 t6 : Slot} (h : ∀ s2 s3 s4 s5 s6, De.nx (EE s2 s3 s4 s5 s6)) : BODY2 ζ De (EE t2 t3 t4 t5 t6) := by
  unfold BODY2
  refine l1 fun t u g k => ?_
  refine l2 g.ok fun i => ?_
  refine l3 g k fun v j m => ?_
  refine l4 g k m fun x y w vx vy vw => ?_
  refine l5 (three_gd vx vy vw) ?_
  refine l6 vx vy vw ?_
  exact l7 (three_gd vx vy vw) (h _ _ _ _ _)
theorem e_loop1 : ∀ (items : List D) {De : DEnds} {t2 t3 t4 t5 t6 : Slot}, (∀ s2 s3 s4 s5 s6, De.nx (EE s2 s3 s4 s5 s6)) → forD (dgName 2) BODY1 ζ De items (EE t2 t3 t4 t5 t6)
  | [], De, t2, t3, t4, t5, t6, h => h _ _ _ _ _
  | d :: ds, De, t2, t3, t4, t5, t6, h => l0 (De := { De with nx := forD (dgName 2) BODY1 ζ De ds, ct := forD (dgName 2) BODY1 ζ De ds, bk := De.nx }) (s2 := .d d) (e_loop1 ds h)
theorem e_loop2 : ∀ (items : List D) {De : DEnds} {t2 t3 t4 t5 t6 : Slot}, (∀ s2 s3 s4 s5 s6, De.nx (EE s2 s3 s4 s5 s6)) → forD (dgName 2) BODY2 ζ De items (EE t2 t3 t4 t5 t6)
  | [], De, t2, t3, t4, t5, t6, h => h _ _ _ _ _
  | d :: ds, De, t2, t3, t4, t5, t6, h => e_body (De := { De with nx := forD (dgName 2) BODY2 ζ De ds, ct := forD (dgName 2) BODY2 ζ De ds, bk := De.nx }) (t2 := .d d) fun s2 s3 s4 s5 s6 => e_loop2 ds h
end
theorem math : T_law (fun _ _ => False) { nx := fun _ => False, rt := fun d => d = .bl true } (.un :: .d .deck :: List.replicate 5 .un) := by
  show dSeq (dForR (dCons (dC (.int 2)) dNil) (dgName 2) BODY1) (dSeq (dForR (dCons (dC (.int 5)) dNil) (dgName 2) BODY2) (dRet (dC (.bl true)))) (fun _ _ => False) { nx := fun _ => False, rt := fun d => d = .bl true } (EE .un .un .un .un .un)
  refine ⟨⟨by decide, by decide⟩, e_loop1 _ fun s2 s3 s4 s5 s6 => ?_⟩
  exact ⟨⟨by decide, by decide⟩, e_loop2 _ fun s2 s3 s4 s5 s6 => rfl⟩
end K16
set_option Elab.async false
set_option linter.all false
set_option maxRecDepth 100000
set_option maxHeartbeats 4000000
namespace K16
open PySem PySem.Spec L2 DL
open PyProof.Rows hiding St
def dd_is_plain_integer : He.DefD := ⟨("is_plain_integer", none), "is_plain_integer", "is_plain_integer", defArgs s_is_plain_integer, defBody s_is_plain_integer, defScope s_is_plain_integer, [], []⟩
def dd_is_direction : He.DefD := ⟨("is_direction", none), "is_direction", "is_direction", defArgs s_is_direction, defBody s_is_direction, defScope s_is_direction, [], []⟩
def dd_is_tuple_of : He.DefD := ⟨("is_tuple_of", none), "is_tuple_of", "is_tuple_of", defArgs s_is_tuple_of, defBody s_is_tuple_of, defScope s_is_tuple_of, [], []⟩
def dd_are_plain_integers : He.DefD := ⟨("are_plain_integers", none), "are_plain_integers", "are_plain_integers", defArgs s_are_plain_integers, defBody s_are_plain_integers, defScope s_are_plain_integers, [], []⟩
def dd_with_part : He.DefD := ⟨("with_part", none), "with_part", "with_part", defArgs s_with_part, defBody s_with_part, defScope s_with_part, [], []⟩
def dd_stepped : He.DefD := ⟨("stepped", none), "stepped", "stepped", defArgs s_stepped, defBody s_stepped, defScope s_stepped, [], []⟩
def dd_is_row : He.DefD := ⟨("is_row", none), "is_row", "is_row", defArgs s_is_row, defBody s_is_row, defScope s_is_row, [], []⟩
def dd_is_corner_row : He.DefD := ⟨("is_corner_row", none), "is_corner_row", "is_corner_row", defArgs s_is_corner_row, defBody s_is_corner_row, defScope s_is_corner_row, [], []⟩
def dd_is_tile_row : He.DefD := ⟨("is_tile_row", none), "is_tile_row", "is_tile_row", defArgs s_is_tile_row, defBody s_is_tile_row, defScope s_is_tile_row, [], []⟩
def dd_need_tile : He.DefD := ⟨("need_tile", none), "need_tile", "need_tile", defArgs s_need_tile, defBody s_need_tile, defScope s_need_tile, [], []⟩
def dd_corners_of : He.DefD := ⟨("corners_of", none), "corners_of", "corners_of", defArgs s_corners_of, defBody s_corners_of, defScope s_corners_of, [], []⟩
def dd_edges_of : He.DefD := ⟨("edges_of", none), "edges_of", "edges_of", defArgs s_edges_of, defBody s_edges_of, defScope s_edges_of, [], []⟩
def dd_is_thick : He.DefD := ⟨("is_thick", none), "is_thick", "is_thick", defArgs s_is_thick, defBody s_is_thick, defScope s_is_thick, [], []⟩
def dd_is_low : He.DefD := ⟨("is_low", none), "is_low", "is_low", defArgs s_is_low, defBody s_is_low, defScope s_is_low, [], []⟩
def dd_marks_of : He.DefD := ⟨("marks_of", none), "marks_of", "marks_of", defArgs s_marks_of, defBody s_marks_of, defScope s_marks_of, [], []⟩
def dd__place_of_edge : He.DefD := ⟨("_place_of_edge", none), "_place_of_edge", "_place_of_edge", defArgs s__place_of_edge, defBody s__place_of_edge, defScope s__place_of_edge, [], []⟩
def dd__is_left_at : He.DefD := ⟨("_is_left_at", none), "_is_left_at", "_is_left_at", defArgs s__is_left_at, defBody s__is_left_at, defScope s__is_left_at, [], []⟩
def dd_does_fit : He.DefD := ⟨("does_fit", none), "does_fit", "does_fit", defArgs s_does_fit, defBody s_does_fit, defScope s_does_fit, [], []⟩
def dd_is_left : He.DefD := ⟨("is_left", none), "is_left", "is_left", defArgs s_is_left, defBody s_is_left, defScope s_is_left, [], []⟩
def dd__law_deck : He.DefD := ⟨("_law_deck", none), "_law_deck", "_law_deck", defArgs s__law_deck, defBody s__law_deck, defScope s__law_deck, [], []⟩
def dd__law_draw : He.DefD := ⟨("_law_draw", none), "_law_draw", "_law_draw", defArgs s__law_draw, defBody s__law_draw, defScope s__law_draw, [], []⟩
def dd__law_pick : He.DefD := ⟨("_law_pick", none), "_law_pick", "_law_pick", defArgs s__law_pick, defBody s__law_pick, defScope s__law_pick, [], []⟩
def dd__law_integer : He.DefD := ⟨("_law_integer", none), "_law_integer", "_law_integer", defArgs s__law_integer, defBody s__law_integer, defScope s__law_integer, [], []⟩
def dd__law_same : He.DefD := ⟨("_law_same", none), "_law_same", "_law_same", defArgs s__law_same, defBody s__law_same, defScope s__law_same, [], []⟩
def dd__law_step : He.DefD := ⟨("_law_step", none), "_law_step", "_law_step", defArgs s__law_step, defBody s__law_step, defScope s__law_step, [], []⟩
def dd__law_drawn : He.DefD := ⟨("_law_drawn", none), "_law_drawn", "_law_drawn", defArgs s__law_drawn, defBody s__law_drawn, defScope s__law_drawn, [], []⟩
def dd__law_borders : He.DefD := ⟨("_law_borders", none), "_law_borders", "_law_borders", defArgs s__law_borders, defBody s__law_borders, defScope s__law_borders, [], []⟩
def dd__law_is_lefthand : He.DefD := ⟨("_law_is_lefthand", none), "_law_is_lefthand", "_law_is_lefthand", defArgs s__law_is_lefthand, defBody s__law_is_lefthand, defScope s__law_is_lefthand, [], []⟩
def dd__law_mark : He.DefD := ⟨("_law_mark", none), "_law_mark", "_law_mark", defArgs s__law_mark, defBody s__law_mark, defScope s__law_mark, [], []⟩
def dd__law_do_fit : He.DefD := ⟨("_law_do_fit", none), "_law_do_fit", "_law_do_fit", defArgs s__law_do_fit, defBody s__law_do_fit, defScope s__law_do_fit, [], []⟩
def dd__law_is_tile : He.DefD := ⟨("_law_is_tile", none), "_law_is_tile", "_law_is_tile", defArgs s__law_is_tile, defBody s__law_is_tile, defScope s__law_is_tile, [], []⟩
def dd__law_odd : He.DefD := ⟨("_law_odd", none), "_law_odd", "_law_odd", defArgs s__law_odd, defBody s__law_odd, defScope s__law_odd, [], []⟩
def dd__law_bent : He.DefD := ⟨("_law_bent", none), "_law_bent", "_law_bent", defArgs s__law_bent, defBody s__law_bent, defScope s__law_bent, [], []⟩
def dd__law_maybe : He.DefD := ⟨("_law_maybe", none), "_law_maybe", "_law_maybe", defArgs s__law_maybe, defBody s__law_maybe, defScope s__law_maybe, [], []⟩
def dd__law_told : He.DefD := ⟨("_law_told", none), "_law_told", "_law_told", defArgs s__law_told, defBody s__law_told, defScope s__law_told, [], []⟩
def dd__law_is_alone_right : He.DefD := ⟨("_law_is_alone_right", none), "_law_is_alone_right", "_law_is_alone_right", defArgs s__law_is_alone_right, defBody s__law_is_alone_right, defScope s__law_is_alone_right, [], []⟩
def dd__law_are_two_right : He.DefD := ⟨("_law_are_two_right", none), "_law_are_two_right", "_law_are_two_right", defArgs s__law_are_two_right, defBody s__law_are_two_right, defScope s__law_are_two_right, [], []⟩
def dd__law_are_neighbours_right : He.DefD := ⟨("_law_are_neighbours_right", none), "_law_are_neighbours_right", "_law_are_neighbours_right", defArgs s__law_are_neighbours_right, defBody s__law_are_neighbours_right, defScope s__law_are_neighbours_right, [], []⟩
def dd_law : He.DefD := ⟨("law", none), "law", "law", defArgs s_law, defBody s_law, defScope s_law, [], []⟩
def di_BadEdge : He.DefD := ⟨("BadEdge", some "__init__"), "__init__", "BadEdge.__init__", defArgs i_BadEdge, defBody i_BadEdge, defScope i_BadEdge, [], []⟩
def di_BadTile : He.DefD := ⟨("BadTile", some "__init__"), "__init__", "BadTile.__init__", defArgs i_BadTile, defBody i_BadTile, defScope i_BadTile, [], []⟩
def fn : List He.DefD := [dd_is_plain_integer, dd_is_direction, dd_is_tuple_of, dd_are_plain_integers, dd_with_part, dd_stepped, dd_is_row, dd_is_corner_row, dd_is_tile_row, dd_need_tile, dd_corners_of, dd_edges_of, dd_is_thick, dd_is_low, dd_marks_of, dd__place_of_edge, dd__is_left_at, dd_does_fit, dd_is_left, dd__law_deck, dd__law_draw, dd__law_pick, dd__law_integer, dd__law_same, dd__law_step, dd__law_drawn, dd__law_borders, dd__law_is_lefthand, dd__law_mark, dd__law_do_fit, dd__law_is_tile, dd__law_odd, dd__law_bent, dd__law_maybe, dd__law_told, dd__law_is_alone_right, dd__law_are_two_right, dd__law_are_neighbours_right, dd_law, di_BadEdge, di_BadTile]
def fa : List He.Fa := [.glo "is_plain_integer", .glo "is_direction", .glo "is_tuple_of", .glo "are_plain_integers", .glo "with_part", .glo "stepped", .glo "is_row", .glo "is_corner_row", .glo "is_tile_row", .glo "need_tile", .glo "corners_of", .glo "edges_of", .glo "is_thick", .glo "is_low", .glo "marks_of", .glo "_place_of_edge", .glo "_is_left_at", .glo "does_fit", .glo "is_left", .glo "_law_deck", .glo "_law_draw", .glo "_law_pick", .glo "_law_integer", .glo "_law_same", .glo "_law_step", .glo "_law_drawn", .glo "_law_borders", .glo "_law_is_lefthand", .glo "_law_mark", .glo "_law_do_fit", .glo "_law_is_tile", .glo "_law_odd", .glo "_law_bent", .glo "_law_maybe", .glo "_law_told", .glo "_law_is_alone_right", .glo "_law_are_two_right", .glo "_law_are_neighbours_right", .glo "law", .free "all", .free "bool", .free "enumerate", .free "int", .free "isinstance", .free "len", .free "list", .free "max", .free "min", .free "range", .free "repr", .free "str", .free "sum", .free "tuple"]
def ex (K : PySem.W.Frag) : Bool := gstrB K "DOWN" "down" && gstrB K "OUTER" "outer" && gstrB K "UP" "up" && mxB K && smB K && exfB K "BadEdge" "thing" && exisB K "BadEdge" && exfB K "BadTile" "thing" && exisB K "BadTile" && refB K "BadCorner" && refB K "BadEdge" && refB K "BadTile" && refB K "FloorError" && exmB K "BadEdge" "BadEdge" true && exmB K "BadTile" "BadEdge" false && exmB K "BadEdge" "BadTile" false && exmB K "BadTile" "BadTile" true && exmB K "BadEdge" "FloorError" true && exmB K "BadTile" "FloorError" true && kitB K "BadEdge" "BadCorner" false && kitB K "BadTile" "BadCorner" false && kitB K "BadEdge" "BadEdge" true && kitB K "BadTile" "BadEdge" false && kitB K "BadEdge" "BadTile" false && kitB K "BadTile" "BadTile" true && kitB K "BadEdge" "FloorError" true && kitB K "BadTile" "FloorError" true && tabNB K TN && tab1B K "_law_is_alone_right" && tab1B K "_law_are_two_right"
abbrev R : PySem.W.OpenRow := PySem.W.OpenLaw.row PySem.Challenge.rw_nevertwice_k16_whole_all_tiles_that_coul
abbrev hk : PySem.W.Hook := hookF 4 fa fn TN ex
def ob (s : PySem.W.SharedT) : He.AlD × Bool := obsF 4 fa fn TN ex (HandSHeadRun.getT s)
theorem ob_eq (s : PySem.W.SharedT) : ob s = hk.obs s.abs := obsF_eq (HandSHeadRun.getT_eq s)
def nms0 : List Str := ["is_plain_integer", "is_direction", "is_tuple_of", "are_plain_integers", "FloorError", "BadCorner", "BadTile", "BadEdge", "with_part", "stepped", "is_row", "is_corner_row", "OUTER", "UP", "DOWN", "is_tile_row", "need_tile", "corners_of", "edges_of", "is_thick", "is_low", "marks_of", "_place_of_edge", "_is_left_at", "does_fit", "is_left", "_law_deck", "_law_draw", "_law_pick", "_law_integer"]
def nms1 : List Str := ["_law_same", "_law_step", "_law_drawn", "_law_borders", "_law_is_lefthand", "_law_mark", "_law_do_fit", "_law_is_tile", "_law_odd", "_law_bent", "_law_maybe", "_law_told", "_law_is_alone_right", "_law_are_two_right", "_law_are_neighbours_right"]
def nms : List Str := nms0 ++ nms1
theorem run (w : World) : HandSHeadRun.RunEq R (PySem.W.view R.prog [51]) hk ob 4120 nms w := by
  intro os
  kernel_rfl
theorem facts {P : Program} {w : World} {K : PySem.W.Frag} {h : Heap} {mg : Str → Option Value} {f : Addr} (X : K.In h) (G : h.Ns mainGlobals mg) (hfa : mg ("law" : Str) = some (.ref f)) (c : He.SaysD fa fn K) (ce : ex K = true) :
    ∃ fd : FuncData, tabNB K TN = true ∧ (∀ (s : Shared) (v : Value), BindsTo s fd ⟨[v], []⟩ [("_law_script", v)]) ∧ ∀ base : Heap, K.In base → base.Ns mainGlobals mg → TBs K mg base TN → FnG P w K mg base CX0 13 f fd ["_law_script"] (spLaw K 5 T_law) := by
  obtain ⟨fd0, F0⟩ := c.def_ 0 (d := dd_is_plain_integer) rfl
  obtain ⟨fd1, F1⟩ := c.def_ 1 (d := dd_is_direction) rfl
  obtain ⟨fd2, F2⟩ := c.def_ 2 (d := dd_is_tuple_of) rfl
  obtain ⟨fd3, F3⟩ := c.def_ 3 (d := dd_are_plain_integers) rfl
  obtain ⟨fd4, F4⟩ := c.def_ 4 (d := dd_with_part) rfl
  obtain ⟨fd5, F5⟩ := c.def_ 5 (d := dd_stepped) rfl
  obtain ⟨fd6, F6⟩ := c.def_ 6 (d := dd_is_row) rfl
  obtain ⟨fd7, F7⟩ := c.def_ 7 (d := dd_is_corner_row) rfl
  obtain ⟨fd8, F8⟩ := c.def_ 8 (d := dd_is_tile_row) rfl
  obtain ⟨fd9, F9⟩ := c.def_ 9 (d := dd_need_tile) rfl
  obtain ⟨fd10, F10⟩ := c.def_ 10 (d := dd_corners_of) rfl
  obtain ⟨fd11, F11⟩ := c.def_ 11 (d := dd_edges_of) rfl
  obtain ⟨fd12, F12⟩ := c.def_ 12 (d := dd_is_thick) rfl
  obtain ⟨fd13, F13⟩ := c.def_ 13 (d := dd_is_low) rfl
  obtain ⟨fd14, F14⟩ := c.def_ 14 (d := dd_marks_of) rfl
  obtain ⟨fd15, F15⟩ := c.def_ 15 (d := dd__place_of_edge) rfl
  obtain ⟨fd16, F16⟩ := c.def_ 16 (d := dd__is_left_at) rfl
  obtain ⟨fd17, F17⟩ := c.def_ 17 (d := dd_does_fit) rfl
  obtain ⟨fd18, F18⟩ := c.def_ 18 (d := dd_is_left) rfl
  obtain ⟨fd19, F19⟩ := c.def_ 19 (d := dd__law_deck) rfl
  obtain ⟨fd20, F20⟩ := c.def_ 20 (d := dd__law_draw) rfl
  obtain ⟨fd21, F21⟩ := c.def_ 21 (d := dd__law_pick) rfl
  obtain ⟨fd22, F22⟩ := c.def_ 22 (d := dd__law_integer) rfl
  obtain ⟨fd23, F23⟩ := c.def_ 23 (d := dd__law_same) rfl
  obtain ⟨fd24, F24⟩ := c.def_ 24 (d := dd__law_step) rfl
  obtain ⟨fd25, F25⟩ := c.def_ 25 (d := dd__law_drawn) rfl
  obtain ⟨fd26, F26⟩ := c.def_ 26 (d := dd__law_borders) rfl
  obtain ⟨fd27, F27⟩ := c.def_ 27 (d := dd__law_is_lefthand) rfl
  obtain ⟨fd28, F28⟩ := c.def_ 28 (d := dd__law_mark) rfl
  obtain ⟨fd29, F29⟩ := c.def_ 29 (d := dd__law_do_fit) rfl
  obtain ⟨fd30, F30⟩ := c.def_ 30 (d := dd__law_is_tile) rfl
  obtain ⟨fd31, F31⟩ := c.def_ 31 (d := dd__law_odd) rfl
  obtain ⟨fd32, F32⟩ := c.def_ 32 (d := dd__law_bent) rfl
  obtain ⟨fd33, F33⟩ := c.def_ 33 (d := dd__law_maybe) rfl
  obtain ⟨fd34, F34⟩ := c.def_ 34 (d := dd__law_told) rfl
  obtain ⟨fd35, F35⟩ := c.def_ 35 (d := dd__law_is_alone_right) rfl
  obtain ⟨fd36, F36⟩ := c.def_ 36 (d := dd__law_are_two_right) rfl
  obtain ⟨fd37, F37⟩ := c.def_ 37 (d := dd__law_are_neighbours_right) rfl
  obtain ⟨fd38, F38⟩ := c.def_ 38 (d := dd_law) rfl
  obtain ⟨fi0, I0⟩ := c.def_ 39 (d := di_BadEdge) rfl
  obtain ⟨fi1, I1⟩ := c.def_ 40 (d := di_BadTile) rfl
  simp only [ex, Bool.and_eq_true] at ce
  obtain ⟨⟨⟨⟨⟨⟨⟨⟨⟨⟨⟨⟨⟨⟨⟨⟨⟨⟨⟨⟨⟨⟨⟨⟨⟨⟨⟨⟨⟨ce0, ce1⟩, ce2⟩, ce3⟩, ce4⟩, ce5⟩, ce6⟩, ce7⟩, ce8⟩, ce9⟩, ce10⟩, ce11⟩, ce12⟩, ce13⟩, ce14⟩, ce15⟩, ce16⟩, ce17⟩, ce18⟩, ce19⟩, ce20⟩, ce21⟩, ce22⟩, ce23⟩, ce24⟩, ce25⟩, ce26⟩, ce27⟩, ce28⟩, ce29⟩ := ce
  obtain ⟨ax0, X0⟩ := exf_ok X G ce5
  obtain ⟨ax1, X1⟩ := exf_ok X G ce7
  obtain ⟨ar0, R0⟩ := ref_ok X G ce9
  obtain ⟨ar1, R1⟩ := ref_ok X G ce10
  obtain ⟨ar2, R2⟩ := ref_ok X G ce11
  obtain ⟨ar3, R3⟩ := ref_ok X G ce12
  let t : Tx K mg := ⟨_,
    fd0,
    F0,
    (He.glo_ok X G (c.fact 0 (f := .glo "is_plain_integer") rfl)),
    _,
    fd1,
    F1,
    (He.glo_ok X G (c.fact 1 (f := .glo "is_direction") rfl)),
    _,
    fd2,
    F2,
    (He.glo_ok X G (c.fact 2 (f := .glo "is_tuple_of") rfl)),
    _,
    fd3,
    F3,
    (He.glo_ok X G (c.fact 3 (f := .glo "are_plain_integers") rfl)),
    _,
    fd4,
    F4,
    (He.glo_ok X G (c.fact 4 (f := .glo "with_part") rfl)),
    _,
    fd5,
    F5,
    (He.glo_ok X G (c.fact 5 (f := .glo "stepped") rfl)),
    _,
    fd6,
    F6,
    (He.glo_ok X G (c.fact 6 (f := .glo "is_row") rfl)),
    _,
    fd7,
    F7,
    (He.glo_ok X G (c.fact 7 (f := .glo "is_corner_row") rfl)),
    _,
    fd8,
    F8,
    (He.glo_ok X G (c.fact 8 (f := .glo "is_tile_row") rfl)),
    _,
    fd9,
    F9,
    (He.glo_ok X G (c.fact 9 (f := .glo "need_tile") rfl)),
    _,
    fd10,
    F10,
    (He.glo_ok X G (c.fact 10 (f := .glo "corners_of") rfl)),
    _,
    fd11,
    F11,
    (He.glo_ok X G (c.fact 11 (f := .glo "edges_of") rfl)),
    _,
    fd12,
    F12,
    (He.glo_ok X G (c.fact 12 (f := .glo "is_thick") rfl)),
    _,
    fd13,
    F13,
    (He.glo_ok X G (c.fact 13 (f := .glo "is_low") rfl)),
    _,
    fd14,
    F14,
    (He.glo_ok X G (c.fact 14 (f := .glo "marks_of") rfl)),
    _,
    fd15,
    F15,
    (He.glo_ok X G (c.fact 15 (f := .glo "_place_of_edge") rfl)),
    _,
    fd16,
    F16,
    (He.glo_ok X G (c.fact 16 (f := .glo "_is_left_at") rfl)),
    _,
    fd17,
    F17,
    (He.glo_ok X G (c.fact 17 (f := .glo "does_fit") rfl)),
    _,
    fd18,
    F18,
    (He.glo_ok X G (c.fact 18 (f := .glo "is_left") rfl)),
    _,
    fd19,
    F19,
    (He.glo_ok X G (c.fact 19 (f := .glo "_law_deck") rfl)),
    _,
    fd20,
    F20,
    (He.glo_ok X G (c.fact 20 (f := .glo "_law_draw") rfl)),
    _,
    fd21,
    F21,
    (He.glo_ok X G (c.fact 21 (f := .glo "_law_pick") rfl)),
    _,
    fd22,
    F22,
    (He.glo_ok X G (c.fact 22 (f := .glo "_law_integer") rfl)),
    _,
    fd23,
    F23,
    (He.glo_ok X G (c.fact 23 (f := .glo "_law_same") rfl)),
    _,
    fd24,
    F24,
    (He.glo_ok X G (c.fact 24 (f := .glo "_law_step") rfl)),
    _,
    fd25,
    F25,
    (He.glo_ok X G (c.fact 25 (f := .glo "_law_drawn") rfl)),
    _,
    fd26,
    F26,
    (He.glo_ok X G (c.fact 26 (f := .glo "_law_borders") rfl)),
    _,
    fd27,
    F27,
    (He.glo_ok X G (c.fact 27 (f := .glo "_law_is_lefthand") rfl)),
    _,
    fd28,
    F28,
    (He.glo_ok X G (c.fact 28 (f := .glo "_law_mark") rfl)),
    _,
    fd29,
    F29,
    (He.glo_ok X G (c.fact 29 (f := .glo "_law_do_fit") rfl)),
    _,
    fd30,
    F30,
    (He.glo_ok X G (c.fact 30 (f := .glo "_law_is_tile") rfl)),
    _,
    fd31,
    F31,
    (He.glo_ok X G (c.fact 31 (f := .glo "_law_odd") rfl)),
    _,
    fd32,
    F32,
    (He.glo_ok X G (c.fact 32 (f := .glo "_law_bent") rfl)),
    _,
    fd33,
    F33,
    (He.glo_ok X G (c.fact 33 (f := .glo "_law_maybe") rfl)),
    _,
    fd34,
    F34,
    (He.glo_ok X G (c.fact 34 (f := .glo "_law_told") rfl)),
    _,
    fd35,
    F35,
    (He.glo_ok X G (c.fact 35 (f := .glo "_law_is_alone_right") rfl)),
    _,
    fd36,
    F36,
    (He.glo_ok X G (c.fact 36 (f := .glo "_law_are_two_right") rfl)),
    _,
    fd37,
    F37,
    (He.glo_ok X G (c.fact 37 (f := .glo "_law_are_neighbours_right") rfl)),
    _,
    fd38,
    F38,
    (He.glo_ok X G (c.fact 38 (f := .glo "law") rfl)),
    (He.free_ok X G (c.fact 39 (f := .free "all") rfl)),
    (He.free_ok X G (c.fact 40 (f := .free "bool") rfl)),
    (He.free_ok X G (c.fact 41 (f := .free "enumerate") rfl)),
    (He.free_ok X G (c.fact 42 (f := .free "int") rfl)),
    (He.free_ok X G (c.fact 43 (f := .free "isinstance") rfl)),
    (He.free_ok X G (c.fact 44 (f := .free "len") rfl)),
    (He.free_ok X G (c.fact 45 (f := .free "list") rfl)),
    (He.free_ok X G (c.fact 46 (f := .free "max") rfl)),
    (He.free_ok X G (c.fact 47 (f := .free "min") rfl)),
    (He.free_ok X G (c.fact 48 (f := .free "range") rfl)),
    (He.free_ok X G (c.fact 49 (f := .free "repr") rfl)),
    (He.free_ok X G (c.fact 50 (f := .free "str") rfl)),
    (He.free_ok X G (c.fact 51 (f := .free "sum") rfl)),
    (He.free_ok X G (c.fact 52 (f := .free "tuple") rfl)),
    (gstr_ok X G ce0),
    (gstr_ok X G ce1),
    (gstr_ok X G ce2),
    ce3,
    ce4,
    ax0,
    _,
    X0,
    fi0,
    I0,
    (exis_ok ce6),
    ax1,
    _,
    X1,
    fi1,
    I1,
    (exis_ok ce8),
    ar0,
    R0,
    ar1,
    R1,
    ar2,
    R2,
    ar3,
    R3,
    (of_decide_eq_true ce13),
    (of_decide_eq_true ce14),
    (of_decide_eq_true ce15),
    (of_decide_eq_true ce16),
    (of_decide_eq_true ce17),
    (of_decide_eq_true ce18),
    (of_decide_eq_true ce19),
    (of_decide_eq_true ce20),
    (of_decide_eq_true ce21),
    (of_decide_eq_true ce22),
    (of_decide_eq_true ce23),
    (of_decide_eq_true ce24),
    (of_decide_eq_true ce25),
    (of_decide_eq_true ce26),
    (tab1_ok ce28),
    rfl,
    (tab1_ok ce29),
    rfl⟩
  have e := hfa.symm.trans t.m_law
  cases e
  have b := FunD.bindsA (ps := ["_law_script"]) t.F_law fun _ _ _ _ _ _ us hl => match us, hl with | [_], _ => rfl
  exact ⟨t.d_law, ce27, fun s v => b s [v] rfl, fun base _ _ tb => ok_law t tb⟩
end K16
open PySem PySem.W PySem.Calls PyProof.Rows
set_option maxRecDepth 100000 in
set_option maxHeartbeats 0 in
theorem PySem.Challenge.cw_nevertwice_k16_whole_all_tiles_that_coul_holds : PySem.Challenge.rw_nevertwice_k16_whole_all_tiles_that_coul.Holds := by
  w_on; o_law
  refine HandSHeadRun.head_any (r := OpenLaw.row PySem.Challenge.rw_nevertwice_k16_whole_all_tiles_that_coul) (q := view (OpenLaw.row PySem.Challenge.rw_nevertwice_k16_whole_all_tiles_that_coul).prog [51]) (H := K16.hk) (ob := K16.ob) (M := 4120) (loose := K16.nms) (d := HandSHeadRun.topDef (OpenLaw.row PySem.Challenge.rw_nevertwice_k16_whole_all_tiles_that_coul).prog 51) (kwd := []) K16.ob_eq
    (by kernel_rfl) (fun s => by kernel_rfl) K16.run (by kernel_rfl) (by kernel_rfl) (by kernel_rfl) (by rfl) (by first | assumption | decide +kernel) (by decide +kernel) ⟨rfl, rfl, rfl, rfl, rfl, by decide +kernel⟩ ?hw ?hc
  case hw => w_witness2
  case hc =>
    refine DL.walk_ofT (l := PySem.Challenge.rw_nevertwice_k16_whole_all_tiles_that_coul) (n := 63) (k := 13) (x := "_law_script") rfl (by decide) (by kernel_rfl) ⟨⟨rfl, by decide, by decide⟩, rfl⟩ ?F
    intro w mg fa h Y G hmg0
    obtain ⟨K, KX, c⟩ := Y
    have hmg : mg ("law" : PySem.Str) = some (.ref fa) := by
      have e : (HandSHeadRun.topDef (OpenLaw.row PySem.Challenge.rw_nevertwice_k16_whole_all_tiles_that_coul).prog 51).name = ("law" : PySem.Str) := by kernel_rfl
      rw [← e]
      exact hmg0
    obtain ⟨fd, htn, hb, hF⟩ := K16.facts (P := (PySem.Challenge.rw_nevertwice_k16_whole_all_tiles_that_coul).prog) (w := w) KX G hmg c.d c.ex
    exact ⟨K, fd, K16.TN.map (fun n => He.cT K (n, none)), DL.spLaw K 5 K16.T_law, KX, DL.cs_ok KX c, hb, fun H a ns hl hT hS => ⟨a, ns, rfl, hS, hl, DL.tabs_start htn hT, K16.math, fun _ => rfl⟩, fun base kb nb tb => hF base kb nb (DL.tbs_of tb)⟩
