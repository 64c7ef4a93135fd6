import PyProof.Rows.All
import Wide.All
import OpenK.AllK
import Wide.FinOn
import Flt.RightSqrt
import HandS.Comp
import HandS.Deep
import HandS.Defaults
import HandS.EndBits
import HandS.EndTab
import HandS.Ends
import HandS.Exc
import HandS.ExcField
import HandS.ExcOwn
import HandS.ForMost
import HandS.Gcd
import HandS.Head0
import HandS.Head1
import HandS.Head2
import HandS.Head3
import HandS.HeadEnd
import HandS.HeadHook1
import HandS.HeadHook2
import HandS.HeadHook4
import HandS.IsInst
import HandS.Lambda
import HandS.More
import HandS.Strs
import HandS.Style
import HandS.Text
import HandS.TryMany
import HandS.TryOnly
import HandS.TupAny
import HandS.TupMul
import HandS.Walk
import HandS.Wide
import HandS.Zip
import KE.GoesMore
import KE.KExcInit
import KE.KExcIs
import KE.KIntText
import KE.KMathG
import KE.KTupSum
import PyProof.DictStraight
import PyProof.FitsInt
import PyProof.ReprRoads
import PyProof.StrLawsRepr
import PyProof.StrOps2
import PySem.Challenge.RW_nevertwice_k92_overlaps_of_any_two_tiles
set_option Elab.async false
set_option linter.all false
set_option maxRecDepth 100000
/-! Data in place of heaps: a reading over plain data, for programs whose values are data and whose one mutable thing is a deck. -/
namespace DL
open PySem PySem.Spec L2
open PyProof.Rows hiding St

/-- data -/
inductive D where
  | non
  | bl (b : Bool)
  | int (i : Int)
  | str (x : Str)
  | tup (ds : List D)
  | lst (ds : List D)
  | dct (ks : List Key) (ds : List D)
  | deck
  | ty (n : String)
  | kt (ds : List D)

/-- defs of laws that make lambdas -/
def lamDefs : List Str := (["_law_are_values_right", "_law_refusals_right", "_law_is_making_right", "_law_is_rest_right", "_law_is_around_right", "_law_are_parts_right", "_law_is_alone_right", "_law_are_two_right", "_law_near_right", "_law_sure_right", "_law_thing_right", "_law_corner_right", "_law_objects_right", "_law_calls", "_law_star_right", "_law_is_right", "_law_is_row_right", "_law_is_neighbour_right", "_law_is_back_right", "_law_two_right", "_law_one_right", "_law_is_floor_refused", "_law_is_great_right"] : List Str) ++ (["_law_is_refusal_right", "_law_is_step_right", "_law_is_redone_right", "_law_is_text_right", "_law_is_take_right", "_law_is_odd_deal_right", "_law_is_lay_right", "_law_is_grow_right", "_law_is_deal_right", "_law_is_dead_right", "_law_is_change_right"] : List Str)
def hasDef (K : PySem.W.Frag) (n : Str) : Bool := match PySem.W.nsIn K mainGlobals n with
  | some (some (.ref _)) => true
  | _ => false
def lamQ (n : Str) : Str := n ++ ".<locals>." ++ "<lambda>"
/-- their tables, the names in them -/
def tabsOf (K : PySem.W.Frag) : List (Addr × Str) := (lamDefs.filter (hasDef K)).map fun n => ((He.cT K (n, none)).2, lamQ n)
/-- where the deck stands: its dict, its list; the tables of code objects -/
structure Zn where
  deck : Option (Addr × Addr)
  tabs : List (Addr × Str)
def InZ (Z : Zn) (p : Addr) : Prop := ∃ a l, Z.deck = some (a, l) ∧ (p = a ∨ p = l)
/-- no table of code objects -/
def Kp (o : HO) : Prop := ∀ ps, o ≠ .tbl ps
theorem kp_tup {vs : List V} : Kp (.tup vs) := fun _ h => by cases h
theorem kp_lst {vs : List V} : Kp (.lst vs) := fun _ h => by cases h
theorem kp_dk {vs : List (Key × V)} : Kp (.dK vs) := fun _ h => by cases h
theorem kp_frz {o : Obj} {u : HO} : Kp (.frz o u) := fun _ h => by cases h
theorem kp_xd {vs : List (Str × V)} : Kp (.xd vs) := fun _ h => by cases h
def deckKvs (l : Addr) (m k : Int) : List (Key × V) := [(.inr ("cells" : Str), .ref l), (.inr ("mixed" : Str), .int m), (.inr ("draws" : Str), .int k)]
def DeckAt (H : Hp) (a l : Addr) : Prop := ∃ (xs : List Int) (m k : Int), H a = some (.dK (deckKvs l m k)) ∧ H l = some (.lst (xs.map V.int)) ∧ xs.length ≤ 63
/-- a store elsewhere leaves the tables as they are -/
theorem tab_upd {H : Hp} {A P : Addr} {o o' : HO} {q : Str} (h : H A = some o) (n1 : Kp o) (n2 : ∀ φ, o ≠ .ext φ) (t : LamX.TabS H P q) : LamX.TabS (upd H A o') P q := by
  obtain ⟨ps, h1, h2, h3⟩ := t
  have e1 : P ≠ A := fun z => by rw [z, h] at h1; cases h1; exact n1 ps rfl
  refine ⟨ps, by rw [upd_ne e1]; exact h1, h2, fun pos cv hc => ?_⟩
  obtain ⟨c, e2, e3⟩ := h3 pos cv hc
  have e4 : c ≠ A := fun z => by
    rw [z, h] at e3
    unfold LamX.CodeO at e3
    cases e3
    exact n2 _ rfl
  exact ⟨c, e2, by rw [upd_ne e4]; exact e3⟩
def DeckOk (Z : Zn) (H : Hp) : Prop := (∀ a l, Z.deck = some (a, l) → DeckAt H a l) ∧ LamX.Tabs Z.tabs H
/-- what may happen to a heap: new things come, the deck changes as a deck -/
structure Ext (Z : Zn) (H H' : Hp) : Prop where
  keep : ∀ p o, ¬ InZ Z p → Kp o → H p = some o → H' p = some o
  deck : DeckOk Z H → DeckOk Z H'
theorem Ext.refl {Z : Zn} {H : Hp} : Ext Z H H := ⟨fun _ _ _ _ h => h, fun h => h⟩
theorem Ext.trans {Z : Zn} {H H1 H2 : Hp} (a : Ext Z H H1) (b : Ext Z H1 H2) : Ext Z H H2 :=
  ⟨fun p o n k h => b.keep p o n k (a.keep p o n k h), fun h => b.deck (a.deck h)⟩

abbrev NK : Hp := fun _ => none
mutual
/-- the value v is the data d; nothing of it stands where N says -/
def Rep (K : PySem.W.Frag) (Z : Zn) (N : Addr → Prop) (H : Hp) : D → V → Prop
  | .non, v => v = .non
  | .bl b, v => v = .bl b
  | .int i, v => v = .int i
  | .str x, v => v = .str x
  | .tup ds, v => ∃ a vs, v = .ref a ∧ ((¬ N a ∧ H a = some (.tup vs)) ∨ SqT K NK a vs) ∧ Reps K Z N H ds vs
  | .lst ds, v => ∃ a vs, v = .ref a ∧ ¬ N a ∧ H a = some (.lst vs) ∧ Reps K Z N H ds vs
  | .dct ks ds, v => ∃ a vs, v = .ref a ∧ ¬ N a ∧ H a = some (.dK (ks.zip vs)) ∧ ks.length = vs.length ∧ Reps K Z N H ds vs
  | .deck, v => ∃ a l, Z.deck = some (a, l) ∧ v = .ref a
  | .ty n, v => v = .ty n
  | .kt ds, v => ∃ a vs o, v = .ref a ∧ ¬ N a ∧ H a = some (.frz o (.tup vs)) ∧ o.dict = none ∧ Reps K Z N H ds vs
def Reps (K : PySem.W.Frag) (Z : Zn) (N : Addr → Prop) (H : Hp) : List D → List V → Prop
  | [], vs => vs = []
  | d :: ds, vs => ∃ v r, vs = v :: r ∧ Rep K Z N H d v ∧ Reps K Z N H ds r
end
section
variable {K : PySem.W.Frag} {Z : Zn} {N N' : Addr → Prop} {H H' : Hp}
mutual
theorem Rep.mono (hk : ∀ p o, ¬ N p → Kp o → H p = some o → H' p = some o ∧ ¬ N' p) : ∀ (d : D) (v : V), Rep K Z N H d v → Rep K Z N' H' d v
  | .non, _, h => h
  | .bl _, _, h => h
  | .int _, _, h => h
  | .str _, _, h => h
  | .tup ds, v, h => by
    obtain ⟨a, vs, e, r, q⟩ := h
    refine ⟨a, vs, e, ?_, Reps.mono hk ds vs q⟩
    rcases r with ⟨n, r⟩ | r
    · obtain ⟨r', n'⟩ := hk _ _ n kp_tup r
      exact .inl ⟨n', r'⟩
    · exact .inr r
  | .lst ds, v, h => by
    obtain ⟨a, vs, e, n, r, q⟩ := h
    obtain ⟨r', n'⟩ := hk _ _ n kp_lst r
    exact ⟨a, vs, e, n', r', Reps.mono hk ds vs q⟩
  | .dct ks ds, v, h => by
    obtain ⟨a, vs, e, n, r, l, q⟩ := h
    obtain ⟨r', n'⟩ := hk _ _ n kp_dk r
    exact ⟨a, vs, e, n', r', l, Reps.mono hk ds vs q⟩
  | .deck, _, h => h
  | .ty _, _, h => h
  | .kt ds, v, h => by
    obtain ⟨a, vs, o, e, n, r, d, q⟩ := h
    obtain ⟨r', n'⟩ := hk _ _ n kp_frz r
    exact ⟨a, vs, o, e, n', r', d, Reps.mono hk ds vs q⟩
theorem Reps.mono (hk : ∀ p o, ¬ N p → Kp o → H p = some o → H' p = some o ∧ ¬ N' p) : ∀ (ds : List D) (vs : List V), Reps K Z N H ds vs → Reps K Z N' H' ds vs
  | [], _, h => h
  | d :: ds, vs, h => by
    obtain ⟨v, r, e, h1, h2⟩ := h
    exact ⟨v, r, e, Rep.mono hk d v h1, Reps.mono hk ds r h2⟩
end
theorem Rep.ext {d : D} {v : V} (e : Ext Z H H') (hz : ∀ p, InZ Z p → N p) (h : Rep K Z N H d v) : Rep K Z N H' d v :=
  Rep.mono (fun p o n k q => ⟨e.keep p o (fun z => n (hz p z)) k q, n⟩) d v h
theorem Reps.ext {ds : List D} {vs : List V} (e : Ext Z H H') (hz : ∀ p, InZ Z p → N p) (h : Reps K Z N H ds vs) : Reps K Z N H' ds vs :=
  Reps.mono (fun p o n k q => ⟨e.keep p o (fun z => n (hz p z)) k q, n⟩) ds vs h
theorem Rep.less {d : D} {v : V} (hn : ∀ p, N' p → N p) (h : Rep K Z N H d v) : Rep K Z N' H d v :=
  Rep.mono (fun p o n _ q => ⟨q, fun z => n (hn p z)⟩) d v h
theorem Reps.less {ds : List D} {vs : List V} (hn : ∀ p, N' p → N p) (h : Reps K Z N H ds vs) : Reps K Z N' H ds vs :=
  Reps.mono (fun p o n _ q => ⟨q, fun z => n (hn p z)⟩) ds vs h
theorem Reps.length : ∀ {ds : List D} {vs : List V}, Reps K Z N H ds vs → ds.length = vs.length
  | [], _, h => by cases h; rfl
  | d :: ds, _, ⟨v, r, e, _, q⟩ => by subst e; simp [Reps.length q]
theorem Reps.get : ∀ {ds : List D} {vs : List V} {i : Nat} {d : D}, Reps K Z N H ds vs → ds[i]? = some d → ∃ v, vs[i]? = some v ∧ Rep K Z N H d v
  | [], _, _, _, _, e => by simp at e
  | x :: ds, _, 0, d, ⟨v, r, e, h, _⟩, g => by subst e; simp at g; subst g; exact ⟨v, rfl, h⟩
  | x :: ds, _, i + 1, d, ⟨v, r, e, _, q⟩, g => by
    subst e
    obtain ⟨w, h1, h2⟩ := Reps.get (i := i) q (by simpa using g)
    exact ⟨w, by simpa using h1, h2⟩
theorem Reps.getV : ∀ {ds : List D} {vs : List V} {i : Nat} {v : V}, Reps K Z N H ds vs → vs[i]? = some v → ∃ d, ds[i]? = some d ∧ Rep K Z N H d v
  | [], _, _, _, h, e => by cases h; simp at e
  | x :: ds, _, 0, v, ⟨w, r, e, h, _⟩, g => by subst e; simp at g; subst g; exact ⟨x, rfl, h⟩
  | x :: ds, _, i + 1, v, ⟨w, r, e, _, q⟩, g => by
    subst e
    obtain ⟨d, h1, h2⟩ := Reps.getV (i := i) q (by simpa using g)
    exact ⟨d, by simpa using h1, h2⟩
theorem Reps.append : ∀ {ds es : List D} {vs ws : List V}, Reps K Z N H ds vs → Reps K Z N H es ws → Reps K Z N H (ds ++ es) (vs ++ ws)
  | [], _, _, _, h, q => by cases h; exact q
  | d :: ds, _, _, _, ⟨v, r, e, h1, h2⟩, q => by subst e; exact ⟨v, _, rfl, h1, Reps.append h2 q⟩
theorem Reps.snoc {ds : List D} {d : D} {vs : List V} {v : V} (h : Reps K Z N H ds vs) (q : Rep K Z N H d v) : Reps K Z N H (ds ++ [d]) (vs ++ [v]) :=
  h.append ⟨v, [], rfl, q, rfl⟩
theorem Reps.take : ∀ {ds : List D} {vs : List V} (n : Nat), Reps K Z N H ds vs → Reps K Z N H (ds.take n) (vs.take n)
  | _, _, 0, _ => by simp [Reps]
  | [], _, n + 1, h => by cases h; simp [Reps]
  | d :: ds, _, n + 1, ⟨v, r, e, h1, h2⟩ => by subst e; exact ⟨v, _, rfl, h1, Reps.take n h2⟩
theorem Reps.drop : ∀ {ds : List D} {vs : List V} (n : Nat), Reps K Z N H ds vs → Reps K Z N H (ds.drop n) (vs.drop n)
  | _, _, 0, h => h
  | [], _, n + 1, h => by cases h; simp [Reps]
  | d :: ds, _, n + 1, ⟨v, r, e, h1, h2⟩ => by subst e; exact Reps.drop n h2
theorem Reps.ints : ∀ {ns : List Int} {vs : List V}, Reps K Z N H (ns.map D.int) vs → vs = ns.map V.int
  | [], _, h => h
  | n :: ns, _, ⟨v, r, e, h1, h2⟩ => by subst e; rw [show v = V.int n from h1, Reps.ints h2]; rfl
theorem Reps.bls : ∀ {ns : List Bool} {vs : List V}, Reps K Z N H (ns.map D.bl) vs → vs = ns.map V.bl
  | [], _, h => h
  | n :: ns, _, ⟨v, r, e, h1, h2⟩ => by subst e; rw [show v = V.bl n from h1, Reps.bls h2]; rfl
end

/-! ### the state of a def's body -/
/-- an exception as data: its class, what it bears -/
structure DX where
  cls : Str
  fs : List (Str × D)
/-- a slot: unassigned, data, a list of the def's own that it may change -/
inductive Slot where
  | un
  | d (x : D)
  | own (xs : List D)
  | raw (v : V)
abbrev SE := List Slot
structure FP where
  K : PySem.W.Frag
  Z : Zn
  B : Addr → Prop
  H0 : Hp
  ex : DX → SE → Prop
  N1 : Addr → Prop
  H1 : Hp
def SlotOk (F : FP) (N : Addr → Prop) (H : Hp) (o : Option (Option V)) : Slot → Prop
  | .un => True
  | .d x => ∃ v, o = some (some v) ∧ Rep F.K F.Z N H x v
  | .own xs => ∃ p vs, o = some (some (.ref p)) ∧ N p ∧ ¬ F.B p ∧ H p = some (.lst vs) ∧ Reps F.K F.Z N H xs vs
  | .raw v => o = some (some v)
/-- what was frozen is so still -/
def Evo (N : Addr → Prop) (H : Hp) (N' : Addr → Prop) (H' : Hp) : Prop := ∀ p o, ¬ N p → Kp o → H p = some o → H' p = some o ∧ ¬ N' p
theorem Evo.refl {N : Addr → Prop} {H : Hp} : Evo N H N H := fun _ _ n _ h => ⟨h, n⟩
theorem Evo.trans {N N1 N2 : Addr → Prop} {H H1 H2 : Hp} (a : Evo N H N1 H1) (b : Evo N1 H1 N2 H2) : Evo N H N2 H2 := fun p o n k h =>
  let ⟨h1, n1⟩ := a p o n k h
  b p o n1 k h1
structure NOk (F : FP) (N : Addr → Prop) (H : Hp) : Prop where
  deck : DeckOk F.Z H
  ext : Ext F.Z F.H0 H
  sub : ∀ p, F.B p → N p
  zin : ∀ p, InZ F.Z p → F.B p
  all : ∀ p, N p → ∃ o, H p = some o ∧ Kp o
  new : ∀ p, N p → ¬ F.B p → ∀ o, Kp o → F.H0 p = some o → False
  gr : Evo F.N1 F.H1 N H
  tb : F.Z.tabs = tabsOf F.K
structure FOk (F : FP) (N : Addr → Prop) (σ : St) (H : Hp) (env : SE) : Prop where
  n : NOk F N H
  len : σ.length = env.length
  slot : ∀ (i : Nat) s, env[i]? = some s → SlotOk F N H σ[i]? s
  apart : ∀ (i j : Nat) p xs ys, i ≠ j → env[i]? = some (.own xs) → env[j]? = some (.own ys) → σ[i]? = some (some (.ref p)) → σ[j]? = some (some (.ref p)) → False
section
variable {F : FP} {N : Addr → Prop} {σ : St} {H H' : Hp} {env : SE}
theorem NOk.z (n : NOk F N H) (p : Addr) (h : InZ F.Z p) : N p := n.sub p (n.zin p h)
theorem NOk.ext' (n : NOk F N H) (e : Ext F.Z H H') : NOk F N H' where
  deck := e.deck n.deck
  ext := n.ext.trans e
  sub := n.sub
  zin := n.zin
  all := fun p h => by
    by_cases z : InZ F.Z p
    · obtain ⟨a, l, e1, e2⟩ := z
      obtain ⟨xs, m, k, h1, h2, _⟩ := (e.deck n.deck).1 a l e1
      rcases e2 with e2 | e2
      · rw [e2]; exact ⟨_, h1, kp_dk⟩
      · rw [e2]; exact ⟨_, h2, kp_lst⟩
    · obtain ⟨o, q, k⟩ := n.all p h
      exact ⟨o, e.keep p o z k q, k⟩
  new := n.new
  gr := n.gr.trans fun p o np k h => ⟨e.keep p o (fun z => np (n.z p z)) k h, np⟩
  tb := n.tb
theorem SlotOk.ext (n : NOk F N H) (e : Ext F.Z H H') {o : Option (Option V)} : ∀ {s : Slot}, SlotOk F N H o s → SlotOk F N H' o s
  | .un, _ => trivial
  | .d x, ⟨v, h1, h2⟩ => ⟨v, h1, h2.ext e n.z⟩
  | .own xs, ⟨p, vs, h1, h2, h3, h4, h5⟩ => ⟨p, vs, h1, h2, h3, e.keep p _ (fun z => h3 (n.zin p z)) kp_lst h4, h5.ext e n.z⟩
  | .raw v, h => h
theorem FOk.ext' (f : FOk F N σ H env) (e : Ext F.Z H H') : FOk F N σ H' env :=
  ⟨f.n.ext' e, f.len, fun i s q => (f.slot i s q).ext f.n e, f.apart⟩
/-- a new thing -/
theorem NOk.fresh (n : NOk F N H) {p : Addr} (h : H p = none) : ¬ N p := fun q => by
  obtain ⟨o, e, _⟩ := n.all p q
  rw [h] at e; cases e
theorem NOk.new0 (n : NOk F N H) {p : Addr} (h : H p = none) : ∀ o, Kp o → F.H0 p = some o → False := fun o k e => by
  rw [n.ext.keep p o (fun z => n.fresh h (n.z p z)) k e] at h
  cases h
theorem deck_mono {Z : Zn} {H H' : Hp} (k : ∀ q u, H q = some u → H' q = some u) (dk : DeckOk Z H) : DeckOk Z H' :=
  ⟨fun a l e => let ⟨xs, m, c, h1, h2, h3⟩ := dk.1 a l e; ⟨xs, m, c, k _ _ h1, k _ _ h2, h3⟩, dk.2.ext k⟩
theorem Ext.of_mono {Z : Zn} {H H' : Hp} (k : ∀ q u, H q = some u → H' q = some u) : Ext Z H H' := ⟨fun q u _ _ e => k q u e, deck_mono k⟩
theorem NOk.lay (n : NOk F N H) {p : Addr} {o : HO} (h : H p = none) : Ext F.Z H (upd H p o) :=
  .of_mono fun q u e => by rw [upd_ne (ne_of_none e h)]; exact e
end

/-! ### readings over data -/
abbrev XW := DX → SE → Prop
abbrev TDE := XW → SE → (D → Prop) → Prop
abbrev TDT := XW → SE → (Bool → Prop) → Prop
abbrev TDA := XW → SE → (List D → Prop) → Prop
structure DEnds where
  nx : SE → Prop
  rt : D → Prop
  bk : SE → Prop := fun _ => False
  ct : SE → Prop := fun _ => False
abbrev TDS := XW → DEnds → SE → Prop
def tD (F : FP) (T : TDE) : TE := fun σ H Q => ∃ N env Qd, FOk F N σ H env ∧ T F.ex env Qd ∧ ∀ v H' d, Ext F.Z H H' → Rep F.K F.Z N H' d v → Qd d → Q v H'
def tDT (F : FP) (T : TDT) : TT := fun σ H Q => ∃ N env Qd, FOk F N σ H env ∧ T F.ex env Qd ∧ ∀ b H', Ext F.Z H H' → Qd b → Q b H'
def tDA (F : FP) (T : TDA) : TA := fun σ H Q => ∃ N env Qd, FOk F N σ H env ∧ T F.ex env Qd ∧ ∀ vs H' ds, Ext F.Z H H' → Reps F.K F.Z N H' ds vs → Qd ds → Q vs H'
theorem Evo.of {F : FP} {N : Addr → Prop} {H H' : Hp} (n : NOk F N H) (e : Ext F.Z H H') : Evo N H N H' := fun p o np k h => ⟨e.keep p o (fun z => np (n.z p z)) k h, np⟩
/-- what a body's ends mean below -/
structure EndsOk (F : FP) (N0 : Addr → Prop) (H0 : Hp) (Dd : DEnds) (De : Ends) : Prop where
  nx : ∀ N σ H env, FOk F N σ H env → Evo N0 H0 N H → Dd.nx env → De.nx σ H
  rt : ∀ v H d, Ext F.Z F.H0 H → Rep F.K F.Z F.B H d v → Dd.rt d → De.rt v H
  bk : ∀ N σ H env, FOk F N σ H env → Evo N0 H0 N H → Dd.bk env → De.bk σ H
  ct : ∀ N σ H env, FOk F N σ H env → Evo N0 H0 N H → Dd.ct env → De.ct σ H
def sD (F : FP) (T : TDS) : TS := fun De σ H => ∃ N env Dd, FOk F N σ H env ∧ T F.ex Dd env ∧ EndsOk F N H Dd De

section
variable {X : Cx} {e : Expr} {es : List Expr} {st : Stmt} {sts : List Stmt}
theorem PE.imp {t t' : TE} (h : PE X e t) (hi : ∀ σ H Q, t' σ H Q → t σ H Q) : PE X e t' := ⟨fun pins s σ H Q I hw => h.run pins s σ H Q I (hi _ _ _ hw)⟩
theorem PT.imp {t t' : TT} (h : PT X e t) (hi : ∀ σ H Q, t' σ H Q → t σ H Q) : PT X e t' := ⟨fun pins s σ H Q I hw => h.run pins s σ H Q I (hi _ _ _ hw)⟩
theorem PW.imp {t t' : TT} (h : PW X e t) (hi : ∀ σ H Q, t' σ H Q → t σ H Q) : PW X e t' := ⟨fun wh pins s σ H Q I hw => h.run wh pins s σ H Q I (hi _ _ _ hw)⟩
theorem PA.imp {t t' : TA} (h : PA X es t) (hi : ∀ σ H Q, t' σ H Q → t σ H Q) : PA X es t' := ⟨fun pos pins s σ H Q I hw => h.run pos pins s σ H Q I (hi _ _ _ hw)⟩
theorem PS.imp {t t' : TS} (h : PS X st t) (hi : ∀ De σ H, t' De σ H → t De σ H) : PS X st t' := ⟨fun pins s σ H De I hw => h.run pins s σ H De I (hi _ _ _ hw)⟩
theorem PSs.imp {t t' : TS} (h : PSs X sts t) (hi : ∀ De σ H, t' De σ H → t De σ H) : PSs X sts t' := ⟨fun pins s σ H De I hw => h.run pins s σ H De I (hi _ _ _ hw)⟩
end
end DL
set_option Elab.async false
set_option linter.all false
set_option maxRecDepth 100000
namespace DL
open PySem PySem.Spec L2
open PyProof.Rows hiding St

section
variable {K : PySem.W.Frag} {Z : Zn} {N : Addr → Prop} {H : Hp}
theorem rep_int {i : Int} : Rep K Z N H (.int i) (.int i) := rfl
theorem rep_bl {i : Bool} : Rep K Z N H (.bl i) (.bl i) := rfl
theorem rep_str {i : Str} : Rep K Z N H (.str i) (.str i) := rfl
theorem rep_non : Rep K Z N H .non .non := rfl
end
section
variable {X : Cx} {F : FP} {e a b c : Expr} {es : List Expr} {pos : Pos} {Ta Tb Tc : TDE} {Tas : TDA}

/-! ### names, constants -/
def dVar (i : Nat) : TDE := fun _ env Q => match env[i]? with
  | some (.d x) => Q x
  | _ => False
theorem d_var {i : Nat} (h : PE X e (tVar i)) : PE X e (tD F (dVar i)) := PE.imp h (by
  rintro σ H Q ⟨N, env, Qd, f, hT, k⟩
  unfold dVar at hT
  split at hT
  · rename_i x hx
    obtain ⟨v, e1, r⟩ := f.slot i _ hx
    exact ⟨v, e1, k v H x Ext.refl r hT⟩
  · exact hT.elim)
def dC (d : D) : TDE := fun _ _ Q => Q d
theorem d_const {v : V} {d : D} (h : PE X e (tC v)) (hr : ∀ N H, Rep F.K F.Z N H d v) : PE X e (tD F (dC d)) := PE.imp h (by
  rintro σ H Q ⟨N, env, Qd, f, hT, k⟩
  exact k v H d Ext.refl (hr N H) hT)
theorem d_int {i : Int} {j} : PE X (.Constant (.int i) j pos) (tD F (dC (.int i))) := d_const pe_int fun _ _ => rfl
theorem d_bl {i : Bool} {j} : PE X (.Constant (.bool i) j pos) (tD F (dC (.bl i))) := d_const pe_bl fun _ _ => rfl
theorem d_non {j} : PE X (.Constant .none j pos) (tD F (dC .non)) := d_const pe_non fun _ _ => rfl
theorem d_str {i : Str} {j} : PE X (.Constant (.str i) j pos) (tD F (dC (.str i))) := d_const pe_str fun _ _ => rfl

/-! ### operators -/
abbrev G2 := D → D → (D → Prop) → Prop
structure OpD (F : FP) (r : R2) (g : G2) : Prop where
  ok : ∀ N H x y dx dy Qd (Q : VK), NOk F N H → Rep F.K F.Z N H dx x → Rep F.K F.Z N H dy y → g dx dy Qd → (∀ v H' d, Ext F.Z H H' → Rep F.K F.Z N H' d v → Qd d → Q v H') → r x y H Q
def dBin (g : G2) (Ta Tb : TDE) : TDE := fun ξ env Q => Ta ξ env fun x => Tb ξ env fun y => g x y Q
theorem tOp_imp {r : R2} {g : G2} (hg : OpD F r g) : ∀ σ H Q, tD F (dBin g Ta Tb) σ H Q → tOp r (tD F Ta) (tD F Tb) σ H Q := by
  rintro σ H Q ⟨N, env, Qd, f, hT, k⟩
  refine ⟨N, env, _, f, hT, fun x H1 dx e1 rx q1 => ?_⟩
  refine ⟨N, env, _, f.ext' e1, q1, fun y H2 dy e2 ry q2 => ?_⟩
  exact hg.ok N H2 x y dx dy _ _ ((f.ext' e1).ext' e2).n (rx.ext e2 f.n.z) ry q2 fun v H3 d e3 r3 q3 => k v H3 d ((e1.trans e2).trans e3) r3 q3
theorem d_op {op : Operator} {r : R2} {g : G2} (ho : OpR X (binaryOp op) r) (hg : OpD F r g) (ha : PE X a (tD F Ta)) (hb : PE X b (tD F Tb)) : PE X (.BinOp a op b pos) (tD F (dBin g Ta Tb)) :=
  PE.imp (pe_op ho ha hb) (tOp_imp hg)
theorem d_cmp {op : CmpOp} {r : R2} {g : G2} (ho : OpR X (compareOp op) r) (hg : OpD F r g) (ha : PE X a (tD F Ta)) (hb : PE X b (tD F Tb)) (hm : behindInMarks op b = false) : PE X (.Compare a [op] [b] pos) (tD F (dBin g Ta Tb)) :=
  PE.imp (pe_cmpR ho ha hb hm) (tOp_imp hg)
/-- an expression that tells True or False, as a test -/
def dTest (T : TDE) : TDT := fun ξ env Q => T ξ env fun d => match d with
  | .bl b => Q b
  | _ => False
theorem bl_of {d : D} {Q : Bool → Prop} (h : match d with | .bl b => Q b | _ => False) : ∃ b, d = .bl b ∧ Q b := by
  cases d <;> first | exact ⟨_, rfl, h⟩ | exact h.elim
theorem tTest_imp {T : TDE} {t : TE} (hi : ∀ σ H Q, tD F T σ H Q → t σ H Q) : ∀ σ H Q, tDT F (dTest T) σ H Q → t σ H fun x H' => ∃ k, x = .bl k ∧ Q k H' := by
  rintro σ H Q ⟨N, env, Qd, f, hT, k⟩
  refine hi σ H _ ⟨N, env, _, f, hT, fun v H' d e r q => ?_⟩
  obtain ⟨b, rfl, q⟩ := bl_of q
  exact ⟨b, r, k b H' e q⟩
theorem dt_cmp {op : CmpOp} {r : R2} {g : G2} (ho : OpR X (compareOp op) r) (hg : OpD F r g) (ha : PE X a (tD F Ta)) (hb : PE X b (tD F Tb)) (hm : behindInMarks op b = false) : PT X (.Compare a [op] [b] pos) (tDT F (dTest (dBin g Ta Tb))) :=
  PT.imp (pt_cmpR ho ha hb hm) (tTest_imp (tOp_imp hg))
theorem dt_val (h : PE X e (tD F Ta)) (he : ∀ whole, isTrue e X.env whole = (do let v ← whole; standAt e.pos; holding [v] (truthy v)) := by intro _; rfl) : PT X e (tDT F (dTest Ta)) :=
  PT.imp (pt_val h he) (tTest_imp fun _ _ _ h => h)
/-- an int, a tuple, .. as a test -/
def truD : D → Option Bool
  | .non => some false
  | .bl b => some b
  | .int i => some (i != 0)
  | .tup ds => some (!ds.isEmpty)
  | .lst ds => some (!ds.isEmpty)
  | _ => none
def dTruth (T : TDE) : TDT := fun ξ env Q => T ξ env fun d => match truD d with
  | some b => Q b
  | none => False

/-! ### and, or, not; if -/
def dtAnd (t u : TDT) : TDT := fun ξ env Q => t ξ env fun c => if c = true then u ξ env Q else Q false
def dtOr (t u : TDT) : TDT := fun ξ env Q => t ξ env fun c => if c = true then Q true else u ξ env Q
def dtNot (t : TDT) : TDT := fun ξ env Q => t ξ env fun c => Q (!c)
variable {tA tB' : TDT} {rest : List Expr}
theorem dw_and1 (ha : PT X a (tDT F tA)) : PW X (.BoolOp .And [a] pos) (tDT F tA) := pw_and1 ha
theorem dw_or1 (ha : PT X a (tDT F tA)) : PW X (.BoolOp .Or [a] pos) (tDT F tA) := pw_or1 ha
theorem dw_and (ha : PT X a (tDT F tA)) (hb : PW X (.BoolOp .And (b :: rest) pos) (tDT F tB')) : PW X (.BoolOp .And (a :: b :: rest) pos) (tDT F (dtAnd tA tB')) := PW.imp (pw_and ha hb) (by
  rintro σ H Q ⟨N, env, Qd, f, hT, k⟩
  refine ⟨N, env, _, f, hT, fun c H1 e1 q1 => ?_⟩
  by_cases hc : c = true
  · rw [if_pos hc] at q1 ⊢
    exact ⟨N, env, _, f.ext' e1, q1, fun b H2 e2 q2 => k b H2 (e1.trans e2) q2⟩
  · rw [if_neg hc] at q1 ⊢
    exact k _ _ e1 q1)
theorem dw_or (ha : PT X a (tDT F tA)) (hb : PW X (.BoolOp .Or (b :: rest) pos) (tDT F tB')) : PW X (.BoolOp .Or (a :: b :: rest) pos) (tDT F (dtOr tA tB')) := PW.imp (pw_or ha hb) (by
  rintro σ H Q ⟨N, env, Qd, f, hT, k⟩
  refine ⟨N, env, _, f, hT, fun c H1 e1 q1 => ?_⟩
  by_cases hc : c = true
  · rw [if_pos hc] at q1 ⊢
    exact k _ _ e1 q1
  · rw [if_neg hc] at q1 ⊢
    exact ⟨N, env, _, f.ext' e1, q1, fun b H2 e2 q2 => k b H2 (e1.trans e2) q2⟩)
theorem dt_not (ha : PT X a (tDT F tA)) : PT X (.UnaryOp .Not a pos) (tDT F (dtNot tA)) := PT.imp (pt_not ha) (by
  rintro σ H Q ⟨N, env, Qd, f, hT, k⟩
  exact ⟨N, env, _, f, hT, fun c H1 e1 q1 => k _ H1 e1 q1⟩)
def dAnd (Ta Tb : TDE) : TDE := fun ξ env Q => dTest Ta ξ env fun c => if c = true then Tb ξ env Q else Q (.bl false)
def dOr (Ta Tb : TDE) : TDE := fun ξ env Q => dTest Ta ξ env fun c => if c = true then Q (.bl true) else Tb ξ env Q
def dNot (Ta : TDE) : TDE := fun ξ env Q => dTest Ta ξ env fun c => Q (.bl (!c))
theorem d_one {op} (h : PE X a (tD F Ta)) : PE X (.BoolOp op [a] pos) (tD F Ta) := pe_one h
theorem d_and (ha : PE X a (tD F Ta)) (hb : PE X (.BoolOp .And (b :: rest) pos) (tD F Tb)) : PE X (.BoolOp .And (a :: b :: rest) pos) (tD F (dAnd Ta Tb)) := PE.imp (pe_and ha hb) (by
  rintro σ H Q ⟨N, env, Qd, f, hT, k⟩
  refine ⟨N, env, _, f, hT, fun x H1 dx e1 r1 q1 => ?_⟩
  obtain ⟨c, rfl, q9⟩ := bl_of q1
  refine ⟨c, r1, ?_⟩
  by_cases hc : c = true
  · rw [if_pos hc] at q9 ⊢
    exact ⟨N, env, _, f.ext' e1, q9, fun v H2 d e2 r2 q2 => k v H2 d (e1.trans e2) r2 q2⟩
  · rw [if_neg hc] at q9 ⊢
    exact k _ _ _ e1 rep_bl q9)
theorem d_or (ha : PE X a (tD F Ta)) (hb : PE X (.BoolOp .Or (b :: rest) pos) (tD F Tb)) : PE X (.BoolOp .Or (a :: b :: rest) pos) (tD F (dOr Ta Tb)) := PE.imp (pe_or ha hb) (by
  rintro σ H Q ⟨N, env, Qd, f, hT, k⟩
  refine ⟨N, env, _, f, hT, fun x H1 dx e1 r1 q1 => ?_⟩
  obtain ⟨c, rfl, q9⟩ := bl_of q1
  refine ⟨c, r1, ?_⟩
  by_cases hc : c = true
  · rw [if_pos hc] at q9 ⊢
    exact k _ _ _ e1 rep_bl q9
  · rw [if_neg hc] at q9 ⊢
    exact ⟨N, env, _, f.ext' e1, q9, fun v H2 d e2 r2 q2 => k v H2 d (e1.trans e2) r2 q2⟩)
theorem d_not (ha : PE X a (tD F Ta)) : PE X (.UnaryOp .Not a pos) (tD F (dNot Ta)) := PE.imp (pe_not ha) (by
  rintro σ H Q ⟨N, env, Qd, f, hT, k⟩
  refine ⟨N, env, _, f, hT, fun x H1 dx e1 r1 q1 => ?_⟩
  obtain ⟨c, rfl, q9⟩ := bl_of q1
  exact ⟨c, r1, k _ _ _ e1 rep_bl q9⟩)
def dIf (t : TDT) (Ta Tb : TDE) : TDE := fun ξ env Q => t ξ env fun c => if c = true then Ta ξ env Q else Tb ξ env Q
theorem d_if (hc : PT X c (tDT F tA)) (ha : PE X a (tD F Ta)) (hb : PE X b (tD F Tb)) : PE X (.IfExp c a b pos) (tD F (dIf tA Ta Tb)) := PE.imp (pe_ifExp hc ha hb) (by
  rintro σ H Q ⟨N, env, Qd, f, hT, k⟩
  refine ⟨N, env, _, f, hT, fun c H1 e1 q1 => ?_⟩
  by_cases hc : c = true
  · rw [if_pos hc] at q1 ⊢
    exact ⟨N, env, _, f.ext' e1, q1, fun v H2 d e2 r2 q2 => k v H2 d (e1.trans e2) r2 q2⟩
  · rw [if_neg hc] at q1 ⊢
    exact ⟨N, env, _, f.ext' e1, q1, fun v H2 d e2 r2 q2 => k v H2 d (e1.trans e2) r2 q2⟩)

/-! ### unary -/
abbrev G1 := D → (D → Prop) → Prop
def dUn (g : G1) (Ta : TDE) : TDE := fun ξ env Q => Ta ξ env fun x => g x Q
def gNeg : G1 := fun x Q => match x with
  | .int i => Q (.int (-i))
  | _ => False
theorem d_neg (ha : PE X a (tD F Ta)) : PE X (.UnaryOp .USub a pos) (tD F (dUn gNeg Ta)) := PE.imp (pe_un un_neg ha) (by
  rintro σ H Q ⟨N, env, Qd, f, hT, k⟩
  refine ⟨N, env, _, f, hT, fun x H1 dx e1 r1 q1 => ?_⟩
  cases dx <;> first | exact q1.elim | exact ⟨_, r1, k _ _ _ e1 rep_int q1⟩)

/-! ### the operators of ints -/
def gI (C : Int → Int → Prop) (g : Int → Int → D) : G2 := fun x y Q => match x, y with
  | .int i, .int j => C i j ∧ Q (g i j)
  | _, _ => False
def gI0 (g : Int → Int → D) : G2 := fun x y Q => match x, y with
  | .int i, .int j => Q (g i j)
  | _, _ => False
theorem gI_of {C : Int → Int → Prop} {g : Int → Int → D} {x y : D} {Q : D → Prop} (h : gI C g x y Q) : ∃ i j, x = .int i ∧ y = .int j ∧ C i j ∧ Q (g i j) := by
  unfold gI at h
  split at h
  · exact ⟨_, _, rfl, rfl, h⟩
  · exact h.elim
theorem gI0_of {g : Int → Int → D} {x y : D} {Q : D → Prop} (h : gI0 g x y Q) : ∃ i j, x = .int i ∧ y = .int j ∧ Q (g i j) := by
  unfold gI0 at h
  split at h
  · exact ⟨_, _, rfl, rfl, h⟩
  · exact h.elim
theorem opd_I {C : Int → Int → Prop} {g : Int → Int → D} {gv : Int → Int → V} (hg : ∀ i j N H, Rep F.K F.Z N H (g i j) (gv i j)) : OpD F (rI C gv) (gI C g) := ⟨by
  intro N H x y dx dy Qd Q n rx ry h k
  obtain ⟨i, j, rfl, rfl, c, q⟩ := gI_of h
  exact ⟨i, j, rx, ry, c, k _ _ _ Ext.refl (hg i j N H) q⟩⟩
theorem opd_I0 {g : Int → Int → D} {gv : Int → Int → V} (hg : ∀ i j N H, Rep F.K F.Z N H (g i j) (gv i j)) : OpD F (rI0 gv) (gI0 g) := ⟨by
  intro N H x y dx dy Qd Q n rx ry h k
  obtain ⟨i, j, rfl, rfl, q⟩ := gI0_of h
  exact ⟨i, j, rx, ry, k _ _ _ Ext.refl (hg i j N H) q⟩⟩
abbrev gAdd : G2 := gI0 fun i j => .int (i + j)
abbrev gSub : G2 := gI0 fun i j => .int (i - j)
abbrev gMul : G2 := gI CMulW fun i j => .int (i * j)
abbrev gDiv : G2 := gI CDivW fun i j => .int (i / j)
abbrev gMod : G2 := gI (fun _ j => 0 < j) fun i j => .int (i % j)
abbrev gPow : G2 := gI CPow fun i j => .int (i ^ j.toNat)
abbrev gLt : G2 := gI0 fun i j => .bl (decide (i < j))
abbrev gLe : G2 := gI0 fun i j => .bl (decide (i ≤ j))
abbrev gGt : G2 := gI0 fun i j => .bl (decide (j < i))
abbrev gGe : G2 := gI0 fun i j => .bl (decide (j ≤ i))
theorem d_add (ha : PE X a (tD F Ta)) (hb : PE X b (tD F Tb)) : PE X (.BinOp a .Add b pos) (tD F (dBin gAdd Ta Tb)) := d_op op_add (opd_I0 fun _ _ _ _ => rfl) ha hb
theorem d_sub (ha : PE X a (tD F Ta)) (hb : PE X b (tD F Tb)) : PE X (.BinOp a .Sub b pos) (tD F (dBin gSub Ta Tb)) := d_op op_sub (opd_I0 fun _ _ _ _ => rfl) ha hb
theorem d_mul (ha : PE X a (tD F Ta)) (hb : PE X b (tD F Tb)) : PE X (.BinOp a .Mult b pos) (tD F (dBin gMul Ta Tb)) := d_op op_mulW (opd_I fun _ _ _ _ => rfl) ha hb
theorem d_div (ha : PE X a (tD F Ta)) (hb : PE X b (tD F Tb)) : PE X (.BinOp a .FloorDiv b pos) (tD F (dBin gDiv Ta Tb)) := d_op op_fdivW (opd_I fun _ _ _ _ => rfl) ha hb
theorem d_mod (ha : PE X a (tD F Ta)) (hb : PE X b (tD F Tb)) : PE X (.BinOp a .Mod b pos) (tD F (dBin gMod Ta Tb)) := d_op op_mod (opd_I fun _ _ _ _ => rfl) ha hb
theorem d_pow (ha : PE X a (tD F Ta)) (hb : PE X b (tD F Tb)) : PE X (.BinOp a .Pow b pos) (tD F (dBin gPow Ta Tb)) := d_op op_pow (opd_I fun _ _ _ _ => rfl) ha hb
theorem d_lt (ha : PE X a (tD F Ta)) (hb : PE X b (tD F Tb)) : PE X (.Compare a [.Lt] [b] pos) (tD F (dBin gLt Ta Tb)) := d_cmp op_lt (opd_I0 fun _ _ _ _ => rfl) ha hb (nomark _)
theorem d_le (ha : PE X a (tD F Ta)) (hb : PE X b (tD F Tb)) : PE X (.Compare a [.LtE] [b] pos) (tD F (dBin gLe Ta Tb)) := d_cmp op_le (opd_I0 fun _ _ _ _ => rfl) ha hb (nomark _)
theorem d_gt (ha : PE X a (tD F Ta)) (hb : PE X b (tD F Tb)) : PE X (.Compare a [.Gt] [b] pos) (tD F (dBin gGt Ta Tb)) := d_cmp op_gt (opd_I0 fun _ _ _ _ => rfl) ha hb (nomark _)
theorem d_ge (ha : PE X a (tD F Ta)) (hb : PE X b (tD F Tb)) : PE X (.Compare a [.GtE] [b] pos) (tD F (dBin gGe Ta Tb)) := d_cmp op_ge (opd_I0 fun _ _ _ _ => rfl) ha hb (nomark _)
theorem dt_lt (ha : PE X a (tD F Ta)) (hb : PE X b (tD F Tb)) : PT X (.Compare a [.Lt] [b] pos) (tDT F (dTest (dBin gLt Ta Tb))) := dt_cmp op_lt (opd_I0 fun _ _ _ _ => rfl) ha hb (nomark _)
theorem dt_le (ha : PE X a (tD F Ta)) (hb : PE X b (tD F Tb)) : PT X (.Compare a [.LtE] [b] pos) (tDT F (dTest (dBin gLe Ta Tb))) := dt_cmp op_le (opd_I0 fun _ _ _ _ => rfl) ha hb (nomark _)
theorem dt_gt (ha : PE X a (tD F Ta)) (hb : PE X b (tD F Tb)) : PT X (.Compare a [.Gt] [b] pos) (tDT F (dTest (dBin gGt Ta Tb))) := dt_cmp op_gt (opd_I0 fun _ _ _ _ => rfl) ha hb (nomark _)
theorem dt_ge (ha : PE X a (tD F Ta)) (hb : PE X b (tD F Tb)) : PT X (.Compare a [.GtE] [b] pos) (tDT F (dTest (dBin gGe Ta Tb))) := dt_cmp op_ge (opd_I0 fun _ _ _ _ => rfl) ha hb (nomark _)

/-! ### == -/
mutual
/-- the library's data -/
def toP : D → PyData
  | .non => .none
  | .bl b => .bool b
  | .int i => .int i
  | .str x => .str x
  | .tup ds => .tuple (toPs ds)
  | .lst ds => .list (toPs ds)
  | .dct ks ds => .dict (toPk ks ds)
  | .deck => .none
  | .ty _ => .none
  | .kt ds => .tuple (toPs ds)
def toPs : List D → List PyData
  | [] => []
  | d :: ds => toP d :: toPs ds
def toPk : List Key → List D → List (PyData × PyData)
  | k :: ks, d :: ds => ((match k with | .inl i => PyData.int i | .inr x => PyData.str x), toP d) :: toPk ks ds
  | _, _ => []
end
mutual
def plain : D → Bool
  | .tup ds => plains ds
  | .lst ds => plains ds
  | .dct _ _ => false
  | .deck => false
  | .ty _ => false
  | .kt ds => plains ds
  | _ => true
def plains : List D → Bool
  | [] => true
  | d :: ds => plain d && plains ds
end
section
variable {K : PySem.W.Frag} {Z : Zn} {N : Addr → Prop} {H : Hp}
theorem sqt_of {a : Addr} {vs : List V} (h : (¬ N a ∧ H a = some (.tup vs)) ∨ SqT K NK a vs) : SqT K H a vs := by
  rcases h with ⟨_, h⟩ | h
  · exact .inl (.inl h)
  · rcases h with (h | ⟨o, h⟩) | h
    · cases h
    · cases h
    · exact .inr h
mutual
theorem Rep.dp : ∀ (d : D) (v : V), plain d = true → Rep K Z N H d v → Dp K H v (toP d)
  | .non, _, _, h => by rw [show _ = V.non from h]; exact .non
  | .bl b, _, _, h => by rw [show _ = V.bl b from h]; exact .bl b
  | .int i, _, _, h => by rw [show _ = V.int i from h]; exact .int i
  | .str x, _, _, h => by rw [show _ = V.str x from h]; exact .str x
  | .tup ds, _, p, h => by
    obtain ⟨a, vs, rfl, r, q⟩ := h
    exact .tup (sqt_of r) (Reps.dp ds vs p q)
  | .lst ds, _, p, h => by
    obtain ⟨a, vs, rfl, _, r, q⟩ := h
    exact .lst (SqL.of r) (Reps.dp ds vs p q)
  | .dct _ _, _, p, _ => by cases p
  | .deck, _, p, _ => by cases p
  | .ty _, _, p, _ => by cases p
  | .kt ds, _, p, h => by
    obtain ⟨a, vs, o, rfl, _, r, _, q⟩ := h
    exact .tup (.inl (.inr ⟨o, r⟩)) (Reps.dp ds vs p q)
theorem Reps.dp : ∀ (ds : List D) (vs : List V), plains ds = true → Reps K Z N H ds vs → DpAll K H vs (toPs ds)
  | [], _, _, h => by cases h; exact .nil
  | d :: ds, _, p, h => by
    obtain ⟨v, r, rfl, h1, h2⟩ := h
    obtain ⟨p1, p2⟩ := Bool.and_eq_true_iff.mp p
    exact .cons (Rep.dp d v p1 h1) (Reps.dp ds r p2 h2)
end
end
/-- data that can be compared -/
def eqOk (d : D) : Bool := plain d && SeqAt.shaped (toP d)
def gEq : G2 := fun x y Q => match x, y with
  | .int i, .int j => Q (.bl (decide (i = j)))
  | .str i, .str j => Q (.bl (decide (i = j)))
  | x, y => (eqOk x = true ∧ eqOk y = true) ∧ Q (.bl (PyData.eqv (toP x) (toP y)))
def gNe : G2 := fun x y Q => match x, y with
  | .int i, .int j => Q (.bl (!decide (i = j)))
  | .str i, .str j => Q (.bl (!decide (i = j)))
  | x, y => (eqOk x = true ∧ eqOk y = true) ∧ Q (.bl (!PyData.eqv (toP x) (toP y)))
theorem opd_eq : OpD F (fun x y H Q => rEqD F.K x y H Q ∨ rEq x y H Q) gEq := ⟨by
  intro N H x y dx dy Qd Q n rx ry h k
  unfold gEq at h
  split at h
  · rename_i i j
    cases (show x = .int i from rx)
    cases (show y = .int j from ry)
    refine .inr ⟨rfl, k _ _ _ Ext.refl rep_bl ?_⟩
    rw [dec_int, Bool.beq_eq_decide_eq]
    exact h
  · rename_i i j
    cases (show x = .str i from rx)
    cases (show y = .str j from ry)
    refine .inr ⟨rfl, k _ _ _ Ext.refl rep_bl ?_⟩
    rw [dec_str, Bool.beq_eq_decide_eq]
    exact h
  · obtain ⟨⟨h1, h2⟩, q⟩ := h
    obtain ⟨p1, s1⟩ := Bool.and_eq_true_iff.mp h1
    obtain ⟨p2, s2⟩ := Bool.and_eq_true_iff.mp h2
    exact .inl ⟨_, _, Rep.dp dx x p1 rx, Rep.dp dy y p2 ry, s1, s2, k _ _ _ Ext.refl rep_bl q⟩⟩
theorem opd_ne : OpD F (fun x y H Q => rNeD F.K x y H Q ∨ rNe x y H Q) gNe := ⟨by
  intro N H x y dx dy Qd Q n rx ry h k
  unfold gNe at h
  split at h
  · rename_i i j
    cases (show x = .int i from rx)
    cases (show y = .int j from ry)
    refine .inr ⟨rfl, k _ _ _ Ext.refl rep_bl ?_⟩
    rw [dec_int, Bool.beq_eq_decide_eq]
    exact h
  · rename_i i j
    cases (show x = .str i from rx)
    cases (show y = .str j from ry)
    refine .inr ⟨rfl, k _ _ _ Ext.refl rep_bl ?_⟩
    rw [dec_str, Bool.beq_eq_decide_eq]
    exact h
  · obtain ⟨⟨h1, h2⟩, q⟩ := h
    obtain ⟨p1, s1⟩ := Bool.and_eq_true_iff.mp h1
    obtain ⟨p2, s2⟩ := Bool.and_eq_true_iff.mp h2
    exact .inl ⟨_, _, Rep.dp dx x p1 rx, Rep.dp dy y p2 ry, s1, s2, k _ _ _ Ext.refl rep_bl q⟩⟩
theorem d_eq (hK : F.K = X.K) (hu : X.A.units + 64 < cLine) (ha : PE X a (tD F Ta)) (hb : PE X b (tD F Tb)) : PE X (.Compare a [.Eq] [b] pos) (tD F (dBin gEq Ta Tb)) := by
  have o := opd_eq (F := F)
  rw [hK] at o
  exact d_cmp ((op_eqD hu).or op_eq) o ha hb (nomark _)
theorem d_ne (hK : F.K = X.K) (hu : X.A.units + 64 < cLine) (ha : PE X a (tD F Ta)) (hb : PE X b (tD F Tb)) : PE X (.Compare a [.NotEq] [b] pos) (tD F (dBin gNe Ta Tb)) := by
  have o := opd_ne (F := F)
  rw [hK] at o
  exact d_cmp ((op_neD hu).or op_ne) o ha hb (nomark _)
theorem dt_eq (hK : F.K = X.K) (hu : X.A.units + 64 < cLine) (ha : PE X a (tD F Ta)) (hb : PE X b (tD F Tb)) : PT X (.Compare a [.Eq] [b] pos) (tDT F (dTest (dBin gEq Ta Tb))) := by
  have o := opd_eq (F := F)
  rw [hK] at o
  exact dt_cmp ((op_eqD hu).or op_eq) o ha hb (nomark _)
theorem dt_ne (hK : F.K = X.K) (hu : X.A.units + 64 < cLine) (ha : PE X a (tD F Ta)) (hb : PE X b (tD F Tb)) : PT X (.Compare a [.NotEq] [b] pos) (tDT F (dTest (dBin gNe Ta Tb))) := by
  have o := opd_ne (F := F)
  rw [hK] at o
  exact dt_cmp ((op_neD hu).or op_ne) o ha hb (nomark _)

/-! ### argument lists, displays -/
def dNil : TDA := fun _ _ Q => Q []
def dCons (Ta : TDE) (Tr : TDA) : TDA := fun ξ env Q => Ta ξ env fun x => Tr ξ env fun xs => Q (x :: xs)
theorem da_nil : PA X [] (tDA F dNil) := PA.imp pa_nil (by
  rintro σ H Q ⟨N, env, Qd, f, hT, k⟩
  exact k [] H [] Ext.refl rfl hT)
theorem tCons_imp {Tr : TDA} : ∀ σ H Q, tDA F (dCons Ta Tr) σ H Q → tCons (tD F Ta) (tDA F Tr) σ H Q := by
  rintro σ H Q ⟨N, env, Qd, f, hT, k⟩
  refine ⟨N, env, _, f, hT, fun x H1 dx e1 r1 q1 => ?_⟩
  exact ⟨N, env, _, f.ext' e1, q1, fun xs H2 ds e2 r2 q2 => k _ H2 (dx :: ds) (e1.trans e2) ⟨x, xs, rfl, r1.ext e2 f.n.z, r2⟩ q2⟩
theorem da_cons {Tr : TDA} (ha : PE X e (tD F Ta)) (hr : PA X es (tDA F Tr)) (hs : starEach (e :: es) X.env = (false, eval e X.env) :: starEach es X.env := by rfl) : PA X (e :: es) (tDA F (dCons Ta Tr)) :=
  PA.imp (pa_cons ha hr hs) tCons_imp
def dTup (T : TDA) : TDE := fun ξ env Q => T ξ env fun ds => ds.length ≤ sizeLine ∧ Q (.tup ds)
def dLst (T : TDA) : TDE := fun ξ env Q => T ξ env fun ds => ds.length ≤ sizeLine ∧ Q (.lst ds)
theorem rep_newT {N : Addr → Prop} {H : Hp} {p : Addr} {vs : List V} {ds : List D} (n : NOk F N H) (hp : H p = none) (r : Reps F.K F.Z N H ds vs) : Rep F.K F.Z N (upd H p (.tup vs)) (.tup ds) (.ref p) :=
  ⟨p, vs, rfl, .inl ⟨n.fresh hp, upd_same⟩, r.ext (n.lay hp) n.z⟩
theorem rep_newL {N : Addr → Prop} {H : Hp} {p : Addr} {vs : List V} {ds : List D} (n : NOk F N H) (hp : H p = none) (r : Reps F.K F.Z N H ds vs) : Rep F.K F.Z N (upd H p (.lst vs)) (.lst ds) (.ref p) :=
  ⟨p, vs, rfl, n.fresh hp, upd_same, r.ext (n.lay hp) n.z⟩
theorem d_tup {x1 : _} (h : PA X es (tDA F Tas)) : PE X (.Tuple es x1 pos) (tD F (dTup Tas)) := PE.imp (pe_tup h) (by
  rintro σ H Q ⟨N, env, Qd, f, hT, k⟩
  refine ⟨N, env, _, f, hT, fun vs H1 ds e1 r1 q1 => ⟨by rw [← r1.length]; exact q1.1, fun p hp => ?_⟩⟩
  have n := (f.ext' e1).n
  exact k _ _ (.tup ds) (e1.trans (n.lay hp)) (rep_newT n hp r1) q1.2)
theorem d_lst (h : PA X es (tDA F Tas)) : PE X (.List es pos) (tD F (dLst Tas)) := PE.imp (pe_lst h) (by
  rintro σ H Q ⟨N, env, Qd, f, hT, k⟩
  refine ⟨N, env, _, f, hT, fun vs H1 ds e1 r1 q1 => ⟨by rw [← r1.length]; exact q1.1, fun p hp => ?_⟩⟩
  have n := (f.ext' e1).n
  exact k _ _ (.lst ds) (e1.trans (n.lay hp)) (rep_newL n hp r1) q1.2)

/-! ### subscripts -/
def gIx : G2 := fun x y Q => match x, y with
  | .tup ds, .int i => match atI ds i with
    | some d => Q d
    | none => False
  | .lst ds, .int i => match atI ds i with
    | some d => Q d
    | none => False
  | _, _ => False
theorem atI_rep {N : Addr → Prop} {H : Hp} {ds : List D} {vs : List V} {i : Int} {d : D} (r : Reps F.K F.Z N H ds vs) (h : atI ds i = some d) : ∃ v, atI vs i = some v ∧ Rep F.K F.Z N H d v := by
  unfold atI at h ⊢
  rw [← r.length]
  cases q : ixN ds.length i with
  | none => rw [q] at h; cases h
  | some j =>
    rw [q] at h
    obtain ⟨v, h1, h2⟩ := r.get (i := j) h
    exact ⟨v, h1, h2⟩
theorem opd_ix : OpD F (rIx F.K) gIx := ⟨by
  intro N H x y dx dy Qd Q n rx ry h k
  unfold gIx at h
  split at h
  · rename_i ds i
    split at h
    · rename_i d hd
      obtain ⟨a, vs, rfl, r, q⟩ := rx
      obtain ⟨v, h1, h2⟩ := atI_rep q hd
      exact .inr (.inl ⟨a, vs, i, v, rfl, ry, sqt_of r, h1, k _ _ _ Ext.refl h2 h⟩)
    · exact h.elim
  · rename_i ds i
    split at h
    · rename_i d hd
      obtain ⟨a, vs, rfl, _, r, q⟩ := rx
      obtain ⟨v, h1, h2⟩ := atI_rep q hd
      exact .inl ⟨a, vs, i, v, rfl, ry, SqL.of r, h1, k _ _ _ Ext.refl h2 h⟩
    · exact h.elim
  · exact h.elim⟩
theorem d_ix (hK : F.K = X.K) (ha : PE X a (tD F Ta)) (hb : PE X b (tD F Tb)) (hs : PlainIx b) : PE X (.Subscript a b pos) (tD F (dBin gIx Ta Tb)) := by
  have o := opd_ix (F := F)
  rw [hK] at o
  exact PE.imp (pe_ix ix_seq ha hb hs) (tOp_imp o)

/-! ### built-in functions -/
abbrev GA := List D → (D → Prop) → Prop
structure CallD (F : FP) (r : List V → Hp → VK → Prop) (g : GA) : Prop where
  ok : ∀ N H vs ds Qd (Q : VK), NOk F N H → Reps F.K F.Z N H ds vs → g ds Qd → (∀ v H' d, Ext F.Z H H' → Rep F.K F.Z N H' d v → Qd d → Q v H') → r vs H Q
def dCB (g : GA) (T : TDA) : TDE := fun ξ env Q => T ξ env fun ds => g ds Q
theorem tCB_imp {r : List V → Hp → VK → Prop} {g : GA} (hg : CallD F r g) : ∀ σ H Q, tD F (dCB g Tas) σ H Q → tCB r (tDA F Tas) σ H Q := by
  rintro σ H Q ⟨N, env, Qd, f, hT, k⟩
  refine ⟨N, env, _, f, hT, fun vs H1 ds e1 r1 q1 => ?_⟩
  exact hg.ok N H1 vs ds _ _ (f.ext' e1).n r1 q1 fun v H2 d e2 r2 q2 => k v H2 d (e1.trans e2) r2 q2
variable {x : Str} {p : Pos} {bid T : String} {r : List V → Hp → VK → Prop} {g : GA}
theorem d_callB (hg' : CallD F r g) (hc : CallR X (.builtin bid) r) (hg : Gl X x) (hm : X.mg x = none) (hv : bootBuiltins x = some (.builtin bid)) (ha : PA X (e :: es) (tDA F Tas)) (hn : x ≠ "__name__" := by decide) (hdb : (x == ("__debug__" : Str)) = false := by decide)
    (he : starEach (e :: es) X.env = (false, eval e X.env) :: starEach es X.env := by rfl) (hpl : (backTo pos (starEach es X.env)).any (·.1) = false := by rfl) : PE X (.Call (.Name x p) (e :: es) [] pos) (tD F (dCB g Tas)) :=
  PE.imp (pe_callB hc hg hm hv ha hn hdb he hpl) (tCB_imp hg')
theorem d_callTy (hg' : CallD F r g) (hc : CallR X (.type T) r) (hg : Gl X x) (hm : X.mg x = none) (hv : bootBuiltins x = some (.type T)) (ha : PA X (e :: es) (tDA F Tas)) (hn : x ≠ "__name__" := by decide) (hdb : (x == ("__debug__" : Str)) = false := by decide)
    (he : starEach (e :: es) X.env = (false, eval e X.env) :: starEach es X.env := by rfl) (hpl : (backTo pos (starEach es X.env)).any (·.1) = false := by rfl) : PE X (.Call (.Name x p) (e :: es) [] pos) (tD F (dCB g Tas)) :=
  PE.imp (pe_callTy hc hg hm hv ha hn hdb he hpl) (tCB_imp hg')
def gAbs : GA := fun xs Q => match xs with
  | [.int i] => Q (.int (if i < 0 then -i else i))
  | _ => False
theorem cd_abs : CallD F (fun xs H Q => ∃ i, xs = [.int i] ∧ Q (.int (if i < 0 then -i else i)) H) gAbs := ⟨by
  intro N H vs ds Qd Q n r h k
  unfold gAbs at h
  split at h
  · obtain ⟨v, r, rfl, h1, h2⟩ := r
    cases h2
    exact ⟨_, by rw [show v = _ from h1], k _ _ _ Ext.refl rep_int h⟩
  · exact h.elim⟩
def gLen : GA := fun xs Q => match xs with
  | [.tup ds] => Q (.int ds.length)
  | [.lst ds] => Q (.int ds.length)
  | _ => False
theorem cd_len : CallD F (fun xs H Q => ∃ p ys, xs = [.ref p] ∧ (SqL F.K H p ys ∨ SqT F.K H p ys) ∧ Q (.int ys.length) H) gLen := ⟨by
  intro N H vs ds Qd Q n r h k
  unfold gLen at h
  split at h
  · obtain ⟨v, r, rfl, h1, h2⟩ := r
    cases h2
    obtain ⟨a, vs, rfl, r, q⟩ := h1
    exact ⟨a, vs, rfl, .inr (sqt_of r), k _ _ _ Ext.refl rep_int (by rw [← q.length]; exact h)⟩
  · obtain ⟨v, r, rfl, h1, h2⟩ := r
    cases h2
    obtain ⟨a, vs, rfl, _, r, q⟩ := h1
    exact ⟨a, vs, rfl, .inl (SqL.of r), k _ _ _ Ext.refl rep_int (by rw [← q.length]; exact h)⟩
  · exact h.elim⟩
/-- int(n), int(flag) -/
def gInt : GA := fun xs Q => match xs with
  | [.int i] => Q (.int i)
  | [.bl b] => Q (.int (if b then 1 else 0))
  | _ => False
theorem cd_int : CallD F (fun xs H Q => (∃ i, xs = [.int i] ∧ Q (.int i) H) ∨ ∃ k, xs = [.bl k] ∧ Q (.int (if k then 1 else 0)) H) gInt := ⟨by
  intro N H vs ds Qd Q n r h k
  unfold gInt at h
  split at h
  · obtain ⟨v, r, rfl, h1, h2⟩ := r
    cases h2
    exact .inl ⟨_, by rw [show v = _ from h1], k _ _ _ Ext.refl rep_int h⟩
  · obtain ⟨v, r, rfl, h1, h2⟩ := r
    cases h2
    exact .inr ⟨_, by rw [show v = _ from h1], k _ _ _ Ext.refl rep_int h⟩
  · exact h.elim⟩
/-- all([..]) -/
def blsOf : List D → Option (List Bool)
  | [] => some []
  | .bl b :: ds => (blsOf ds).map (b :: ·)
  | _ :: _ => none
theorem blsOf_eq : ∀ {ds : List D} {bs : List Bool}, blsOf ds = some bs → ds = bs.map D.bl
  | [], bs, h => by simp [blsOf] at h; subst h; rfl
  | d :: ds, bs, h => by
    cases d <;> first | (simp [blsOf] at h; done) | skip
    rename_i b
    simp only [blsOf, Option.map_eq_some_iff] at h
    obtain ⟨r, h1, h2⟩ := h
    rw [← h2, blsOf_eq h1]; rfl
def gAll : GA := fun xs Q => match xs with
  | [.lst ds] => match blsOf ds with
    | some bs => Q (.bl (bs.all id))
    | none => False
  | _ => False
def gAny : GA := fun xs Q => match xs with
  | [.lst ds] => match blsOf ds with
    | some bs => Q (.bl (bs.any id))
    | none => False
  | _ => False
theorem cd_all : CallD F (fun vs H Q => ∃ (a : Addr) (bs : List Bool), vs = [V.ref a] ∧ SqL F.K H a (bs.map V.bl) ∧ Q (.bl (bs.all id)) H) gAll := ⟨by
  intro N H vs ds Qd Q n r h k
  unfold gAll at h
  split at h
  · split at h
    · rename_i ds bs hb
      obtain ⟨v, r, rfl, h1, h2⟩ := r
      cases h2
      obtain ⟨a, vs, rfl, _, r, q⟩ := h1
      rw [blsOf_eq hb] at q
      rw [q.bls] at r
      exact ⟨a, bs, rfl, SqL.of r, k _ _ _ Ext.refl rep_bl h⟩
    · exact h.elim
  · exact h.elim⟩
/-- isinstance(x, T) of the built-in types that occur -/
inductive PyT where
  | int | bool | tuple | list | str | dict
def PyT.name : PyT → String
  | .int => "int"
  | .bool => "bool"
  | .tuple => "tuple"
  | .list => "list"
  | .str => "str"
  | .dict => "dict"
def isD : PyT → D → Bool
  | .int, .int _ => true
  | .int, .bl _ => true
  | .bool, .bl _ => true
  | .tuple, .tup _ => true
  | .tuple, .kt _ => true
  | .list, .lst _ => true
  | .dict, .dct _ _ => true
  | .str, .str _ => true
  | _, _ => false
def typed : D → Bool
  | .deck => false
  | .ty _ => false
  | _ => true
def gIsi (T : PyT) : GA := fun xs Q => match xs with
  | [x, _] => typed x = true ∧ Q (.bl (isD T x))
  | _ => False
theorem kt {K : PySem.W.Frag} {a b : String} {r r' : Bool} (h : kitB a b = some r) (e : r = r') : PySem.W.kitOne K (.type a) (.type b) = some r' := e ▸ kit_ty h
theorem kt_non : ∀ T : PyT, kitB "NoneType" T.name = some false := fun T => by cases T <;> decide +kernel
theorem kt_str : ∀ T : PyT, kitB "str" T.name = some (isD T (.str Str.empty)) := fun T => by cases T <;> decide +kernel
theorem kt_bl : ∀ T : PyT, kitB "bool" T.name = some (isD T (.bl true)) := fun T => by cases T <;> decide +kernel
theorem kt_int : ∀ T : PyT, kitB "int" T.name = some (isD T (.int 0)) := fun T => by cases T <;> decide +kernel
theorem kt_tup : ∀ T : PyT, kitB "tuple" T.name = some (isD T (.tup [])) := fun T => by cases T <;> decide +kernel
theorem kt_lst : ∀ T : PyT, kitB "list" T.name = some (isD T (.lst [])) := fun T => by cases T <;> decide +kernel
theorem kt_dct : ∀ T : PyT, kitB "dict" T.name = some (isD T (.dct [] [])) := fun T => by cases T <;> decide +kernel
theorem tyx_of {N : Addr → Prop} {H : Hp} : ∀ {d : D} {v : V}, typed d = true → Rep F.K F.Z N H d v → ∃ t, TyX F.K H v (.type t) ∧ ∀ T : PyT, PySem.W.kitOne F.K (.type t) (.type T.name) = some (isD T d)
  | .non, v, _, h => ⟨"NoneType", by rw [show v = _ from h]; exact .base .non, fun T => kt (kt_non T) (by cases T <;> rfl)⟩
  | .bl b, v, _, h => ⟨"bool", by rw [show v = _ from h]; exact .base (.bl b), fun T => kt (kt_bl T) (by cases T <;> rfl)⟩
  | .int b, v, _, h => ⟨"int", by rw [show v = _ from h]; exact .base (.int b), fun T => kt (kt_int T) (by cases T <;> rfl)⟩
  | .str b, v, _, h => ⟨"str", by rw [show v = _ from h]; exact .base (.str b), fun T => kt (kt_str T) (by cases T <;> rfl)⟩
  | .tup ds, v, _, h => by
    obtain ⟨a, vs, rfl, r, q⟩ := h
    refine ⟨"tuple", ?_, fun T => kt (kt_tup T) (by cases T <;> rfl)⟩
    rcases r with ⟨_, r⟩ | (r | ⟨_, r⟩) | ⟨o, _, _, h1, h2, _⟩
    · exact .base (.tup r)
    · cases r
    · cases r
    · exact .kTuple h1 h2
  | .lst ds, v, _, h => by
    obtain ⟨a, vs, rfl, _, r, q⟩ := h
    exact ⟨"list", .base (.lst r), fun T => kt (kt_lst T) (by cases T <;> rfl)⟩
  | .dct ks ds, v, _, h => by
    obtain ⟨a, vs, rfl, _, r, _, q⟩ := h
    exact ⟨"dict", .base (.dK r), fun T => kt (kt_dct T) (by cases T <;> rfl)⟩
  | .deck, _, p, _ => by cases p
  | .ty _, _, p, _ => by cases p
  | .kt ds, v, _, h => by
    obtain ⟨a, vs, o, rfl, _, r, _, q⟩ := h
    exact ⟨"tuple", .fTuple r, fun T => DL.kt (kt_tup T) (by cases T <;> rfl)⟩
theorem cd_isi (T : PyT) : CallD F (fun xs H Q => (∃ (x c : V), xs = [x, c] ∧ c = .ty T.name) → rIsi F.K xs H Q) (gIsi T) := ⟨by
  intro N H vs ds Qd Q n r h k
  rintro ⟨x, c, rfl, rfl⟩
  unfold gIsi at h
  split at h
  · rename_i dx dc
    obtain ⟨v, r1, e1, h1, h2⟩ := r
    cases e1
    obtain ⟨t, h3, h4⟩ := tyx_of h.1 h1
    exact ⟨x, _, _, _, _, rfl, .ty _, h3, h4 T, k _ _ _ Ext.refl rep_bl h.2⟩
  · exact h.elim⟩
end
end DL
set_option Elab.async false
set_option linter.all false
set_option maxRecDepth 100000
namespace DL
open PySem PySem.Spec L2
open PyProof.Rows hiding St

section
variable {X : Cx} {F : FP} {e a b c : Expr} {es : List Expr} {st : Stmt} {rest : List Stmt} {pos : Pos} {Ta Tb Tc : TDE} {Tas : TDA} {T U : TDS}

theorem EndsOk.of {N0 : Addr → Prop} {H0 : Hp} {N : Addr → Prop} {H : Hp} {Dd : DEnds} {De : Ends} (ok : EndsOk F N0 H0 Dd De) (v : Evo N0 H0 N H) : EndsOk F N H Dd De :=
  ⟨fun N' σ H' env f e => ok.nx N' σ H' env f (v.trans e), ok.rt, fun N' σ H' env f e => ok.bk N' σ H' env f (v.trans e), fun N' σ H' env f e => ok.ct N' σ H' env f (v.trans e)⟩

/-! ### blocks -/
def dNext : TDS := fun _ De env => De.nx env
def dSeq (t u : TDS) : TDS := fun ξ De env => t ξ { De with nx := u ξ De } env
theorem ds_nil : PSs X [] (sD F dNext) := PSs.imp pss_nil (by
  rintro De σ H ⟨N, env, Dd, f, hT, ok⟩
  exact ok.nx _ _ _ _ f .refl hT)
theorem ds_pass : PS X (.Pass pos) (sD F dNext) := PS.imp ps_pass (by
  rintro De σ H ⟨N, env, Dd, f, hT, ok⟩
  exact ok.nx _ _ _ _ f .refl hT)
theorem ds_cons (h1 : PS X st (sD F T)) (h2 : PSs X rest (sD F U)) : PSs X (st :: rest) (sD F (dSeq T U)) := PSs.imp (pss_cons h1 h2) (by
  rintro De σ H ⟨N, env, Dd, f, hT, ok⟩
  exact ⟨N, env, { Dd with nx := U F.ex Dd }, f, hT, ⟨fun N' σ' H' env' f' v hu => ⟨N', env', Dd, f', hu, ok.of v⟩, ok.rt, ok.bk, ok.ct⟩⟩)
theorem ds_one (h1 : PS X st (sD F T)) : PSs X [st] (sD F T) := pss_one h1
def dBreak : TDS := fun _ De env => De.bk env
def dCont : TDS := fun _ De env => De.ct env
theorem ds_break : PS X (.Break pos) (sD F dBreak) := PS.imp ps_break (by
  rintro De σ H ⟨N, env, Dd, f, hT, ok⟩
  exact ok.bk _ _ _ _ f .refl hT)
theorem ds_continue : PS X (.Continue pos) (sD F dCont) := PS.imp ps_continue (by
  rintro De σ H ⟨N, env, Dd, f, hT, ok⟩
  exact ok.ct _ _ _ _ f .refl hT)
def dDrop (T : TDE) : TDS := fun ξ De env => T ξ env fun _ => De.nx env
theorem ds_expr (he : PE X e (tD F Ta)) (hs : swapsWith e none pos.line X.env = pure false := by rfl) : PS X (.Expr e pos) (sD F (dDrop Ta)) := PS.imp (ps_expr he hs) (by
  rintro De σ H ⟨N, env, Dd, f, hT, ok⟩
  exact ⟨N, env, _, f, hT, fun v H' d e1 r q => ok.nx _ _ _ _ (f.ext' e1) (.of f.n e1) q⟩)
def dRet (T : TDE) : TDS := fun ξ De env => T ξ env De.rt
theorem ds_ret (he : PE X e (tD F Ta)) : PS X (.Return (some e) pos) (sD F (dRet Ta)) := PS.imp (ps_ret he) (by
  rintro De σ H ⟨N, env, Dd, f, hT, ok⟩
  exact ⟨N, env, _, f, hT, fun v H' d e1 r q => ok.rt v H' d (f.n.ext.trans e1) (r.less f.n.sub) q⟩)
def dRetN : TDS := fun _ De _ => De.rt .non
theorem ds_retN : PS X (.Return none pos) (sD F dRetN) := PS.imp ps_retN (by
  rintro De σ H ⟨N, env, Dd, f, hT, ok⟩
  exact ok.rt _ _ _ f.n.ext rep_non hT)
def dIfS (c : TDT) (t u : TDS) : TDS := fun ξ De env => c ξ env fun b => if b = true then t ξ De env else u ξ De env
theorem ds_if {c : Expr} {a b : List Stmt} {tc : TDT} (hc : PT X c (tDT F tc)) (ha : PSs X a (sD F T)) (hb : PSs X b (sD F U)) : PS X (.If c a b pos) (sD F (dIfS tc T U)) := PS.imp (ps_if hc ha hb) (by
  rintro De σ H ⟨N, env, Dd, f, hT, ok⟩
  refine ⟨N, env, _, f, hT, fun k H1 e1 q1 => ?_⟩
  by_cases hk : k = true
  · rw [if_pos hk] at q1 ⊢
    exact ⟨N, env, Dd, f.ext' e1, q1, ok.of (.of f.n e1)⟩
  · rw [if_neg hk] at q1 ⊢
    exact ⟨N, env, Dd, f.ext' e1, q1, ok.of (.of f.n e1)⟩)
/-- never come to -/
def dNever : TDS := fun _ _ _ => False
theorem ds_never : PS X st (sD F dNever) := PS.imp ps_never (by
  rintro De σ H ⟨N, env, Dd, f, hT, ok⟩
  exact hT.elim)
theorem dss_never {sts : List Stmt} : PSs X sts (sD F dNever) := PSs.imp pss_never (by
  rintro De σ H ⟨N, env, Dd, f, hT, ok⟩
  exact hT.elim)

/-! ### targets -/
theorem FOk.set {N : Addr → Prop} {σ : L2.St} {H : Hp} {env : SE} (f : FOk F N σ H env) (i : Nat) {x : D} {v : V} (r : Rep F.K F.Z N H x v) : FOk F N (σ.set i (some v)) H (env.set i (.d x)) where
  n := f.n
  len := by rw [List.length_set, List.length_set]; exact f.len
  slot := fun j s h => by
    by_cases hj : i = j
    · subst hj
      have hl : i < env.length := by
        have := (List.getElem?_eq_some_iff.mp h).1
        rwa [List.length_set] at this
      rw [List.getElem?_set_self hl] at h
      cases h
      exact ⟨v, by rw [List.getElem?_set_self (by rw [f.len]; exact hl)], r⟩
    · rw [List.getElem?_set_ne hj] at h
      rw [List.getElem?_set_ne hj]
      exact f.slot j s h
  apart := fun j k p xs ys hjk h1 h2 h3 h4 => by
    have o : ∀ {j : Nat} {xs : List D}, (env.set i (.d x))[j]? = some (.own xs) → i ≠ j ∧ env[j]? = some (.own xs) := fun {j xs} h => by
      by_cases hj : i = j
      · subst hj
        have hl : i < env.length := by
          have := (List.getElem?_eq_some_iff.mp h).1
          rwa [List.length_set] at this
        rw [List.getElem?_set_self hl] at h
        cases h
      · rw [List.getElem?_set_ne hj] at h
        exact ⟨hj, h⟩
    obtain ⟨n1, h1⟩ := o h1
    obtain ⟨n2, h2⟩ := o h2
    rw [List.getElem?_set_ne n1] at h3
    rw [List.getElem?_set_ne n2] at h4
    exact f.apart j k p xs ys hjk h1 h2 h3 h4
abbrev TDG := D → SE → (SE → Prop) → Prop
abbrev TDGs := List D → SE → (SE → Prop) → Prop
def gD (F : FP) (G : TDG) : TG := fun v σ H Q => ∃ N env d Qd, FOk F N σ H env ∧ Rep F.K F.Z N H d v ∧ G d env Qd ∧ ∀ σ' env', FOk F N σ' H env' → Qd env' → Q σ' H
def gDs (F : FP) (G : TDGs) : TGs := fun vs σ H Q => ∃ N env ds Qd, FOk F N σ H env ∧ Reps F.K F.Z N H ds vs ∧ G ds env Qd ∧ ∀ σ' env', FOk F N σ' H env' → Qd env' → Q σ' H
theorem PG.imp {t t' : TG} (h : PG X e t) (hi : ∀ v σ H Q, t' v σ H Q → t v σ H Q) : PG X e t' := ⟨fun pins s σ H v u Q I r hw => h.run pins s σ H v u Q I r (hi _ _ _ _ hw)⟩
theorem PGs.imp {t t' : TGs} (h : PGs X es t) (hi : ∀ v σ H Q, t' v σ H Q → t v σ H Q) : PGs X es t' := ⟨fun pins s σ H v u Q I r hw => h.run pins s σ H v u Q I r (hi _ _ _ _ hw)⟩
def dgName (i : Nat) : TDG := fun d env Q => Q (env.set i (.d d))
theorem dg_name {i : Nat} (h : PG X e (gName i)) : PG X e (gD F (dgName i)) := PG.imp h (by
  rintro v σ H Q ⟨N, env, d, Qd, f, r, hG, k⟩
  exact k _ _ (f.set i r) hG)
def dgNil : TDGs := fun ds env Q => match ds with
  | [] => Q env
  | _ => False
def dgCons (G : TDG) (Gs : TDGs) : TDGs := fun ds env Q => match ds with
  | d :: r => G d env fun env' => Gs r env' Q
  | [] => False
theorem dgs_nil : PGs X [] (gDs F dgNil) := PGs.imp pgs_nil (by
  rintro v σ H Q ⟨N, env, ds, Qd, f, r, hG, k⟩
  cases ds with
  | nil => exact ⟨r, k _ _ f hG⟩
  | cons d ds => exact hG.elim)
/-- targets that leave the frame's frozen part as it is (names, tuples of names) -/
theorem dgs_cons {G : TDG} {Gs : TDGs} (h1 : PG X e (gD F G)) (h2 : PGs X es (gDs F Gs)) (hc : (assignEach (e :: es) X.env).map (·.2) = assign e X.env :: (assignEach es X.env).map (·.2) := by rfl) : PGs X (e :: es) (gDs F (dgCons G Gs)) := PGs.imp (pgs_cons h1 h2 hc) (by
  rintro v σ H Q ⟨N, env, ds, Qd, f, r, hG, k⟩
  cases ds with
  | nil => exact hG.elim
  | cons d ds =>
    obtain ⟨v0, vr, rfl, r1, r2⟩ := r
    exact ⟨v0, vr, rfl, N, env, d, _, f, r1, hG, fun σ' env' f' q => ⟨N, env', ds, _, f', r2, q, k⟩⟩)
def dgTup (n : Nat) (Gs : TDGs) : TDG := fun d env Q => match d with
  | .tup ds => ds.length = n ∧ Gs ds env Q
  | _ => False
theorem dg_tup {Gs : TDGs} {k n : Nat} (hK : F.K = X.K) (hc : X.calm = true) (h : PGs X es (gDs F Gs)) (hn : (assignEach es X.env).length = n := by rfl) (hst : (assignEach es X.env).findIdx? (·.1) = none := by rfl) :
    PG X (.Tuple es k pos) (gD F (dgTup n Gs)) := PG.imp (pg_tup hc h hn hst) (by
  rintro v σ H Q ⟨N, env, d, Qd, f, r, hG, k⟩
  cases d <;> first | exact hG.elim | skip
  rename_i ds
  obtain ⟨a, vs, rfl, r1, r2⟩ := r
  exact ⟨a, vs, rfl, by rw [← hK]; exact sqt_of r1, by rw [← r2.length]; exact hG.1, N, env, ds, _, f, r2, hG.2, k⟩)
def dAsg (T : TDE) (G : TDG) : TDS := fun ξ De env => T ξ env fun x => G x env De.nx
theorem tAsg_imp {G : TDG} : ∀ De σ H, sD F (dAsg Ta G) De σ H → tAsg (tD F Ta) (gD F G) De σ H := by
  rintro De σ H ⟨N, env, Dd, f, hT, ok⟩
  exact ⟨N, env, _, f, hT, fun v H' d e1 r q => ⟨N, env, d, _, f.ext' e1, r, q, fun σ' env' f' q' => ok.nx _ _ _ _ f' (.of f.n e1) q'⟩⟩
theorem ds_asg {tg : Expr} {G : TDG} (he : PE X e (tD F Ta)) (hg : PG X tg (gD F G)) (hs : swapsWithSole [tg] e pos.line X.env = pure false := by rfl) (hw : swappedStores [tg] e X.env = pure none := by rfl) (h1 : (assignEach [tg] X.env).map (·.2) = [assign tg X.env] := by rfl) : PS X (.Assign [tg] e pos) (sD F (dAsg Ta G)) :=
  PS.imp (ps_asg he hg hs hw h1) tAsg_imp
/-- x = e, x in slot i -/
theorem ds_set {i : Nat} {x : Str} {pos' : Pos} (hN : X.N.Nodup) (hi : X.N[i]? = some x) (hx : Loc X.env.scope x) (he : PE X e (tD F Ta)) (hs : swapsWith e (some (.Name x pos')) pos.line X.env = pure false := by rfl)
    (hf : X.fn x = true ∨ X.env.scope.names.lookup x = some .local := by first | exact .inl rfl | exact .inr rfl | assumption) : PS X (.Assign [.Name x pos'] e pos) (sD F (dAsg Ta (dgName i))) :=
  PS.imp (ps_set hN hi hx he hs hf) (by
  rintro De σ H ⟨N, env, Dd, f, hT, ok⟩
  exact ⟨N, env, _, f, hT, fun v H' d e1 r q => ok.nx _ _ _ _ ((f.ext' e1).set i r) (.of f.n e1) q⟩)
/-- x, y = a, b -/
def dPar (i j : Nat) (Ta : TDA) : TDS := fun ξ De env => Ta ξ env fun ds => match ds with
  | [x, y] => De.nx ((env.set i (.d x)).set j (.d y))
  | _ => False
theorem tPar_imp {i j : Nat} : ∀ De σ H, sD F (dPar i j Tas) De σ H → tPar i j (tDA F Tas) De σ H := by
  rintro De σ H ⟨N, env, Dd, f, hT, ok⟩
  refine ⟨N, env, _, f, hT, fun vs H' ds e1 r q => ?_⟩
  split at q
  · obtain ⟨v, _, rfl, r1, w, _, rfl, r2, r3⟩ := r
    cases r3
    exact ⟨v, w, rfl, ok.nx _ _ _ _ (((f.ext' e1).set i r1).set j r2) (.of f.n e1) q⟩
  · exact q.elim
def dPar3 (i j l : Nat) (Ta : TDA) : TDS := fun ξ De env => Ta ξ env fun ds => match ds with
  | [x, y, z] => De.nx (((env.set i (.d x)).set j (.d y)).set l (.d z))
  | _ => False
theorem tPar3_imp {i j l : Nat} : ∀ De σ H, sD F (dPar3 i j l Tas) De σ H → tPar3 i j l (tDA F Tas) De σ H := by
  rintro De σ H ⟨N, env, Dd, f, hT, ok⟩
  refine ⟨N, env, _, f, hT, fun vs H' ds e1 r q => ?_⟩
  split at q
  · obtain ⟨v, _, rfl, r1, w, _, rfl, r2, u, _, rfl, r3, r4⟩ := r
    cases r4
    exact ⟨v, w, u, rfl, ok.nx _ _ _ _ ((((f.ext' e1).set i r1).set j r2).set l r3) (.of f.n e1) q⟩
  · exact q.elim
/-- x += e of ints -/
def dAug (i : Nat) (g : G2) (T : TDE) : TDS := fun ξ De env => match env[i]? with
  | some (.d x) => T ξ env fun y => g x y fun z => De.nx (env.set i (.d z))
  | _ => False

/-! ### for -/
def forD (G : TDG) (B : TDS) (ξ : XW) (De : DEnds) : List D → SE → Prop
  | [], env => De.nx env
  | d :: ds, env => G d env fun env' => B ξ { De with nx := forD G B ξ De ds, ct := forD G B ξ De ds, bk := De.nx } env'
def dFor (T : TDE) (G : TDG) (B : TDS) : TDS := fun ξ De env => T ξ env fun d => match d with
  | .lst ds => forD G B ξ De ds env
  | _ => False
def dForT (T : TDE) (G : TDG) (B : TDS) : TDS := fun ξ De env => T ξ env fun d => match d with
  | .tup ds => forD G B ξ De ds env
  | _ => False
theorem forD_step {G : TDG} {B : TDS} {De : Ends} {Dd : DEnds} {N0 N : Addr → Prop} {H0 H : Hp} {σ : L2.St} {env : SE} {d : D} {v : V} {i : Nat} {all : List D} {Pv : Nat → L2.St → Hp → Prop}
    (hP : ∀ i σ H, Pv i σ H ↔ ∃ N env, FOk F N σ H env ∧ Evo N0 H0 N H ∧ forD G B F.ex Dd (all.drop i) env) (ok : EndsOk F N0 H0 Dd De) (f : FOk F N σ H env) (ev : Evo N0 H0 N H)
    (hd : all[i]? = some d) (r : Rep F.K F.Z N H d v) (h : forD G B F.ex Dd (all.drop i) env) :
    gD F G v σ H fun σ2 H2 => sD F B { De with nx := Pv (i + 1), ct := Pv (i + 1), bk := De.nx } σ2 H2 := by
  obtain ⟨hi, e⟩ := List.getElem?_eq_some_iff.mp hd
  rw [List.drop_eq_getElem_cons hi, e] at h
  refine ⟨N, env, d, _, f, r, h, fun σ' env' f' q => ⟨N, env', _, f', q, ⟨fun N1 σ1 H1 env1 f1 v1 q1 => ?_, ok.rt, fun N1 σ1 H1 env1 f1 v1 q1 => ok.nx _ _ _ _ f1 (ev.trans v1) q1, fun N1 σ1 H1 env1 f1 v1 q1 => ?_⟩⟩⟩
  · exact (hP _ _ _).mpr ⟨N1, env1, f1, ev.trans v1, q1⟩
  · exact (hP _ _ _).mpr ⟨N1, env1, f1, ev.trans v1, q1⟩
theorem ds_for {iter tg : Expr} {body : List Stmt} {G : TDG} {B : TDS} (hK : F.K = X.K) (hp : PassesOwn (model X.prog X.w) X.A X.env X.xe) (hc : X.calm = true) (hi : PE X iter (tD F Ta)) (hg : PG X tg (gD F G)) (hb : PSs X body (sD F B))
    (hs : ∀ x, foldedSetIterable iter X.env x = pure x := by intro _; rfl) : PS X (.For tg iter body [] pos) (sD F (dFor Ta G B)) := PS.imp (ps_for hp hc (pi_list hi) hg hb hs) (by
  rintro De σ H ⟨N, env, Dd, f, hT, ok⟩
  refine ⟨N, env, _, f, hT, fun v H1 d e1 r q => ?_⟩
  cases d <;> first | exact q.elim | skip
  rename_i ds
  obtain ⟨a, vs, rfl, na, ra, rs⟩ := r
  refine ⟨a, rfl, ⟨vs, SqL.of ra⟩, ?_⟩
  have f1 := f.ext' e1
  have ok1 := ok.of (.of f.n e1)
  refine for_list (K := X.K) (a := a) (xs := vs) (fun i σ H' => ∃ N' env', FOk F N' σ H' env' ∧ Evo N H1 N' H' ∧ forD G B F.ex Dd (ds.drop i) env') ⟨N, env, f1, .refl, q⟩ (fun i σ' H' _ ⟨N', env', f', ev, _⟩ => SqL.of (ev a _ na kp_lst ra).1) ?_ ?_
  · rintro i x σ' H' hx ⟨N', env', f', ev, q'⟩
    obtain ⟨d, hd, rd⟩ := rs.getV hx
    exact forD_step (fun _ _ _ => Iff.rfl) ok1 f' ev hd (Rep.mono ev d x rd) q'
  · rintro σ' H' ⟨N', env', f', ev, q'⟩
    rw [← rs.length, List.drop_length] at q'
    exact ok1.nx _ _ _ _ f' ev q')
theorem ds_forT {iter tg : Expr} {body : List Stmt} {G : TDG} {B : TDS} (hK : F.K = X.K) (hp : PassesOwn (model X.prog X.w) X.A X.env X.xe) (hc : X.calm = true) (hi : PE X iter (tD F Ta)) (hg : PG X tg (gD F G)) (hb : PSs X body (sD F B))
    (hs : ∀ x, foldedSetIterable iter X.env x = pure x := by intro _; rfl) : PS X (.For tg iter body [] pos) (sD F (dForT Ta G B)) := PS.imp (ps_for hp hc (pi_tup hi) hg hb hs) (by
  rintro De σ H ⟨N, env, Dd, f, hT, ok⟩
  refine ⟨N, env, _, f, hT, fun v H1 d e1 r q => ?_⟩
  cases d <;> first | exact q.elim | skip
  rename_i ds
  obtain ⟨a, vs, rfl, ra, rs⟩ := r
  refine ⟨a, rfl, ⟨vs, by rw [← hK]; exact sqt_of ra⟩, ?_⟩
  have f1 := f.ext' e1
  have ok1 := ok.of (.of f.n e1)
  refine for_tup (K := X.K) (a := a) (xs := vs) (fun i σ H' => ∃ N' env', FOk F N' σ H' env' ∧ Evo N H1 N' H' ∧ forD G B F.ex Dd (ds.drop i) env') ⟨N, env, f1, .refl, q⟩ (fun i σ' H' _ ⟨N', env', f', ev, _⟩ => ?_) ?_ ?_
  · rw [← hK]
    refine sqt_of (N := N') ?_
    rcases ra with ⟨n, ra⟩ | ra
    · obtain ⟨h1, h2⟩ := ev a _ n kp_tup ra
      exact .inl ⟨h2, h1⟩
    · exact .inr ra
  · rintro i x σ' H' hx ⟨N', env', f', ev, q'⟩
    obtain ⟨d, hd, rd⟩ := rs.getV hx
    exact forD_step (fun _ _ _ => Iff.rfl) ok1 f' ev hd (Rep.mono ev d x rd) q'
  · rintro σ' H' ⟨N', env', f', ev, q'⟩
    rw [← rs.length, List.drop_length] at q'
    exact ok1.nx _ _ _ _ f' ev q')
/-- the ints lo, lo + 1, .. -/
def intsD (lo : Int) (n : Nat) : List D := (List.range n).map fun (i : Nat) => D.int (lo + i)
theorem ints_get {lo : Int} {n i : Nat} (h : i < n) : (intsD lo n)[i]? = some (.int (lo + i)) := by
  unfold intsD
  rw [List.getElem?_map, List.getElem?_range h]
  rfl
theorem ints_len {lo : Int} {n : Nat} : (intsD lo n).length = n := by simp [intsD]
def dForR (T : TDA) (G : TDG) (B : TDS) : TDS := fun ξ De env => T ξ env fun ds => match ds with
  | [.int j] => (-(2 ^ 62) ≤ j ∧ j < 2 ^ 62) ∧ forD G B ξ De (intsD 0 j.toNat) env
  | _ => False
def dForR2 (T : TDA) (G : TDG) (B : TDS) : TDS := fun ξ De env => T ξ env fun ds => match ds with
  | [.int i, .int j] => (-(2 ^ 62) ≤ i ∧ i < 2 ^ 62 ∧ -(2 ^ 62) ≤ j ∧ j < 2 ^ 62) ∧ forD G B ξ De (intsD i (j - i).toNat) env
  | _ => False
theorem for_rangeD {G : TDG} {B : TDS} {De : Ends} {Dd : DEnds} {N : Addr → Prop} {H1 : Hp} {σ : L2.St} {env : SE} {lo : Int} {n : Nat} (ok1 : EndsOk F N H1 Dd De) (f1 : FOk F N σ H1 env) (q : forD G B F.ex Dd (intsD lo n) env) :
    ∃ W : Nat → Nat → L2.St → Hp → Prop, (∃ m, W 0 m σ H1) ∧ ∀ i m σ H, W i m σ H →
      ((Itr lo n).stop i H ∧ De.nx σ H) ∨ ((Itr lo n).go i H ∧ ∃ N : L2.St → Hp → Prop, (∀ σ' H', N σ' H' → ∃ m', m' < m ∧ W (i + 1) m' σ' H') ∧ ∀ x H', (Itr lo n).yld i H x H' → gD F G x σ H' fun σ2 H2 => sD F B { De with nx := N, ct := N, bk := De.nx } σ2 H2) := by
  refine for_range (lo := lo) (n := n) (fun i σ H' => ∃ N' env', FOk F N' σ H' env' ∧ Evo N H1 N' H' ∧ forD G B F.ex Dd ((intsD lo n).drop i) env') ⟨N, env, f1, .refl, q⟩ ?_ ?_
  · rintro i σ' H' hi ⟨N', env', f', ev, q'⟩
    exact forD_step (fun _ _ _ => Iff.rfl) ok1 f' ev (ints_get hi) rep_int q'
  · rintro σ' H' ⟨N', env', f', ev, q'⟩
    rw [show (intsD lo n).drop n = [] from by rw [List.drop_eq_nil_iff, ints_len]; exact Nat.le_refl _] at q'
    exact ok1.nx _ _ _ _ f' ev q'
theorem ds_forR1 {tg a : Expr} {p pos' : Pos} {body : List Stmt} {G : TDG} {B : TDS} (hp : PassesOwn (model X.prog X.w) X.A X.env X.xe) (hc : X.calm = true) (hgl : Gl X "range") (hm : X.mg "range" = none) (ha : PA X [a] (tDA F Tas)) (hg : PG X tg (gD F G)) (hb : PSs X body (sD F B))
    (hsa : starEach [a] X.env = [(false, eval a X.env)] := by rfl) (hs : ∀ x, foldedSetIterable (.Call (.Name "range" p) [a] [] pos') X.env x = pure x := by intro _; rfl) : PS X (.For tg (.Call (.Name "range" p) [a] [] pos') body [] pos) (sD F (dForR Tas G B)) := PS.imp (ps_for hp hc (pi_range1 hgl hm ha hsa) hg hb hs) (by
  rintro De σ H ⟨N, env, Dd, f, hT, ok⟩
  refine ⟨N, env, _, f, hT, fun vs H1 ds e1 r q => ?_⟩
  split at q
  · obtain ⟨v, _, rfl, r1, r2⟩ := r
    cases r2
    refine ⟨_, by rw [show v = _ from r1], q.1.1, q.1.2, ?_⟩
    exact for_rangeD (ok.of (.of f.n e1)) (f.ext' e1) q.2
  · exact q.elim)
theorem ds_forR2 {tg a b : Expr} {p pos' : Pos} {body : List Stmt} {G : TDG} {B : TDS} (hp : PassesOwn (model X.prog X.w) X.A X.env X.xe) (hc : X.calm = true) (hgl : Gl X "range") (hm : X.mg "range" = none) (ha : PA X [a, b] (tDA F Tas)) (hg : PG X tg (gD F G)) (hb : PSs X body (sD F B))
    (hsa : starEach [a, b] X.env = [(false, eval a X.env), (false, eval b X.env)] := by rfl) (hs2 : starEach [b] X.env = [(false, eval b X.env)] := by rfl) (hs : ∀ x, foldedSetIterable (.Call (.Name "range" p) [a, b] [] pos') X.env x = pure x := by intro _; rfl) : PS X (.For tg (.Call (.Name "range" p) [a, b] [] pos') body [] pos) (sD F (dForR2 Tas G B)) := PS.imp (ps_for hp hc (pi_range2 hgl hm ha hsa hs2) hg hb hs) (by
  rintro De σ H ⟨N, env, Dd, f, hT, ok⟩
  refine ⟨N, env, _, f, hT, fun vs H1 ds e1 r q => ?_⟩
  split at q
  · obtain ⟨v, _, rfl, r1, w, _, rfl, r2, r3⟩ := r
    cases r3
    refine ⟨_, _, by rw [show v = _ from r1, show w = _ from r2], q.1, ?_⟩
    exact for_rangeD (ok.of (.of f.n e1)) (f.ext' e1) q.2
  · exact q.elim)

/-! ### while -/
def whileN (c : TDT) (B : TDS) (ξ : XW) (De : DEnds) : Nat → SE → Prop
  | 0, _ => False
  | n + 1, env => c ξ env fun k => if k = true then B ξ { De with nx := whileN c B ξ De n, ct := whileN c B ξ De n, bk := De.nx } env else De.nx env
def dWhile (c : TDT) (B : TDS) : TDS := fun ξ De env => ∃ n, whileN c B ξ De n env
theorem ds_while {c : Expr} {body : List Stmt} {C : TDT} {B : TDS} (hp : PassesOwn (model X.prog X.w) X.A X.env X.xe) (hc : PT X c (tDT F C)) (hb : PSs X body (sD F B)) : PS X (.While c body [] pos) (sD F (dWhile C B)) := PS.imp (ps_while hp hc hb) (by
  rintro De σ H ⟨N, env, Dd, f, ⟨n, hT⟩, ok⟩
  refine ⟨fun m σ' H' => ∃ N' env', FOk F N' σ' H' env' ∧ Evo N H N' H' ∧ whileN C B F.ex Dd m env', ⟨n, N, env, f, .refl, hT⟩, ?_⟩
  rintro m σ' H' ⟨N', env', f', ev, q⟩
  cases m with
  | zero => exact q.elim
  | succ m =>
    refine ⟨N', env', _, f', q, fun k H2 e2 q2 => ?_⟩
    have ev2 : Evo N H N' H2 := ev.trans (.of f'.n e2)
    by_cases hk : k = true
    · subst hk
      rw [if_pos rfl] at q2
      refine iteT ?_
      refine ⟨fun σ3 H3 => ∃ N3 env3, FOk F N3 σ3 H3 env3 ∧ Evo N H N3 H3 ∧ whileN C B F.ex Dd m env3, fun σ3 H3 q3 => ⟨m, Nat.lt_succ_self m, q3⟩, N', env', _, f'.ext' e2, q2, ?_⟩
      exact ⟨fun N1 σ1 H1 env1 f1 v1 q1 => ⟨N1, env1, f1, ev2.trans v1, q1⟩, ok.rt, fun N1 σ1 H1 env1 f1 v1 q1 => ok.nx _ _ _ _ f1 (ev2.trans v1) q1, fun N1 σ1 H1 env1 f1 v1 q1 => ⟨N1, env1, f1, ev2.trans v1, q1⟩⟩
    · rw [Bool.not_eq_true] at hk
      subst hk
      rw [if_neg Bool.false_ne_true] at q2
      exact iteF (ok.nx _ _ _ _ (f'.ext' e2) ev2 q2))
end
end DL
set_option Elab.async false
set_option linter.all false
set_option maxRecDepth 100000
namespace DL
open PySem PySem.Spec L2
open PyProof.Rows hiding St

/-! ### defs, where no text is being written -/
structure RoomG (k : Nat) (A : Around) : Prop where
  r : Room k A
  g : A.guards = some []
theorem RoomG.mono {j k : Nat} {A : Around} (h : RoomG k A) (l : j ≤ k) : RoomG j A := ⟨h.r.mono l, h.g⟩
theorem units80 {k : Nat} {A : Around} (r : Room k A) : A.units + 80 < cLine := by have := r.un; omega
theorem guards_deeper {A : Around} {env : Env} (h : A.guards = some []) : (A.deeper env).guards = some [] := by
  first | exact h | (simpa [Around.deeper] using h)
structure FnG (P : Program) (w : World) (K : PySem.W.Frag) (mg : Str → Option Value) (base : Heap) (CX : CXT) (k : Nat) (f : Addr) (fd : FuncData) (ps : List Str) (sp : Sp) : Prop where
  len : ∀ vs H Q E, sp vs H Q E → vs.length = ps.length
  run : ∀ (A : Around) (outer : List Env) (s : Shared) (H : Hp) (args : Args) (us : List Value) (vs : List V) (Q : VK) (E : XK), RoomG k A → Env0 P w K mg base A outer s H → BindsTo s fd args (ps.zip us) → Vals vs us → sp vs H Q E →
    codeAny (model P w) A (.call (.ref f) args) (CR CX outer P w H s Q E) s
section
variable {P : Program} {w : World} {K : PySem.W.Frag} {mg : Str → Option Value} {base : Heap} {CX : CXT} {k : Nat} {f : Addr} {fd : FuncData} {N ps : List Str} {sp : Sp}
theorem FnG.mono {j : Nat} (G : FnG P w K mg base CX j f fd ps sp) (h : j ≤ k) : FnG P w K mg base CX k f fd ps sp :=
  ⟨G.len, fun A outer s H args us vs Q E hr => G.run A outer s H args us vs Q E (hr.mono h)⟩
theorem FnG.imp {sp' : Sp} (G : FnG P w K mg base CX k f fd ps sp) (h : ∀ vs H Q E, sp' vs H Q E → sp vs H Q E) : FnG P w K mg base CX k f fd ps sp' :=
  ⟨fun vs H Q E q => G.len _ _ _ _ (h _ _ _ _ q), fun A outer s H args us vs Q E hr he hb hv hs => G.run A outer s H args us vs Q E hr he hb hv (h _ _ _ _ hs)⟩
theorem FnOk.toG (G : FnOk P w K mg base CX k f fd ps sp) : FnG P w K mg base CX k f fd ps sp :=
  ⟨G.len, fun A outer s H args us vs Q E hr => G.run A outer s H args us vs Q E hr.r⟩
/-- a def's body, by a term for each entry -/
theorem fng_ofC {x qual : Str} {params : Arguments} {body : List Stmt} {scope : Scope} {dvs : List V} {kws : List (Str × V)} (F : FunD K x qual params body scope dvs kws f fd) (S : FnScope N ps scope)
    (len : ∀ vs H Q E, sp vs H Q E → vs.length = ps.length)
    (hb : ∀ (cdv : Value) (A : Around) (outer : List Env) (s : Shared) (H : Hp) (vs : List V) (Q : VK) (E : XK), RoomG k (A.deeper (envOfC qual scope s.heap.objs.size f cdv)) → (PySem.W.codeIn K cdv qual = true ∧ fd.code = cdv) → sp vs H Q E →
      ∃ t, PSs (cxOf CX P w K mg base N qual scope f cdv A outer s H E) body t ∧ t { nx := fun _ H' => Q .non H', rt := Q } (start N vs) H) : FnG P w K mg base CX (k + 1) f fd ps sp := by
  obtain ⟨oc, od, dV, kV, doc, pm, an, cdv, ct, osl, efd, lk, hcd, _, _⟩ := F.ex
  subst efd
  constructor
  · exact len
  intro A outer s H args us vs Q E room e0 bnd rel wish
  have lenv := len _ _ _ _ wish
  have still : ∀ b o, base.get? b = some o → s.heap.get? b = some o := fun b o e => (e0.bs b o e).1
  have inK : K.In s.heap := e0.mod.kin.keeps still
  have noLim : s.heap.NoLimit := e0.mod.nolimit.keeps still
  have kinds : ∀ y ∈ ps.zip us, scope.names.lookup y.1 = some .local ∨ (scope.names.lookup y.1 = some .cell ∧ ((cellsFrom (s.heap.objs.size + 1) scope.names []).lookup y.1).isSome = true) := by
    rintro ⟨n, v⟩ hy
    have hn := (List.of_mem_zip hy).1
    exact (S.par n hn).elim .inl fun q => .inr ⟨q, PySem.W.cellsFrom_some _ _ _ (.inl q)⟩
  refine codeAny_call_function room.r.depth (inK _ _ lk) rfl S.co S.gen rfl (PySem.W.codeRec_of inK hcd) (bnd _ _ _ _ ?_)
  refine wpAny_newFunctionEnv_cells S.kind kinds ?_
  intro env ee s1 inc
  subst ee
  refine ⟨noLim.keeps inc.toInCall.keep, codeAny_func ?_⟩
  obtain ⟨t, pt, tq⟩ := hb cdv A outer s H vs Q E ⟨room.r.deeper _, guards_deeper room.g⟩ ⟨hcd, rfl⟩ wish
  have start_ok := inv_start (CX := CX) (E := E) (qual := qual) (f := f) (cd := cdv) S room.r.hd e0 lenv rel inc
  refine wpAny_mono (pt.run [] s1 (start N vs) H _ start_ok tq) ?_ fun e s' z => z
  intro fl s' z
  cases fl with
  | next =>
    obtain ⟨σ', H', J, q⟩ := z
    exact ⟨V.non, H', J.os, J.bare, J.base, J.hok, rfl, q⟩
  | ret u =>
    obtain ⟨v, σ', H', J, rv, q⟩ := z
    exact ⟨v, H', J.os, J.bare, J.base, J.hok, rv, q⟩
  | brk =>
    obtain ⟨_, _, _, q⟩ := z
    cases q
  | cont =>
    obtain ⟨_, _, _, q⟩ := z
    cases q
theorem fng_of {x qual : Str} {params : Arguments} {body : List Stmt} {scope : Scope} {dvs : List V} {kws : List (Str × V)} (F : FunD K x qual params body scope dvs kws f fd) (S : FnScope N ps scope)
    (len : ∀ vs H Q E, sp vs H Q E → vs.length = ps.length)
    (hb : ∀ (cdv : Value) (A : Around) (outer : List Env) (s : Shared) (H : Hp) (vs : List V) (Q : VK) (E : XK), RoomG k (A.deeper (envOfC qual scope s.heap.objs.size f cdv)) → sp vs H Q E →
      ∃ t, PSs (cxOf CX P w K mg base N qual scope f cdv A outer s H E) body t ∧ t { nx := fun _ H' => Q .non H', rt := Q } (start N vs) H) : FnG P w K mg base CX (k + 1) f fd ps sp :=
  fng_ofC F S len fun cdv A outer s H vs Q E room _ => hb cdv A outer s H vs Q E room
end

section
variable {X : Cx} {CX : CXT} {k : Nat} {f : Addr} {fd : FuncData} {ps ks : List Str} {sp : Sp} {dvs : List V} {ds : List Value} {E : XK} {x : Str} {p pos : Pos} {e : Expr} {es : List Expr} {kws : List Keyword} {t tk : TA}
theorem wish_of {pins : List (Addr × Obj)} {σ : L2.St} {H : Hp} {s : Shared} {Q : VK} (hx : Passes CX X E) (I : Inv X pins σ H s) {r : Result} {s' : Shared} (h : CR CX X.stack X.prog X.w H s Q E r s') :
    match r with
    | .ok (.ret u) => EP X pins σ Q u s'
    | .ok _ => False
    | .error e => X.xe e s' := by
  cases r with
  | error e => exact hx pins σ H s e s' I h
  | ok fl =>
    cases fl with
    | ret u => exact I.after h
    | next => exact h
    | brk => exact h
    | cont => exact h
theorem run_g {pins : List (Addr × Obj)} {σ : L2.St} {H : Hp} {s : Shared} {Q : VK} {us : List Value} {vs : List V} (G : FnG X.prog X.w X.K X.mg X.base CX k f fd ps sp) (hr : RoomG k X.A) (hb : Binds X.K fd ps ds) (hd : Vals dvs ds) (hx : Passes CX X E)
    (I : Inv X pins σ H s) (r : Vals vs us) (h : sp (vs ++ dvs) H Q E) : wpAny (model X.prog X.w) X.A (call (.ref f) us) (EP X pins σ Q) X.xe s := by
  have rr : Vals (vs ++ dvs) (us ++ ds) := r.append hd
  have hl : (us ++ ds).length = ps.length := rr.length.symm.trans (G.len _ _ _ _ h)
  refine wpAny_call (codeAny_mono (G.run X.A X.stack s H ⟨us, []⟩ (us ++ ds) (vs ++ dvs) Q E hr I.env0 (hb s us I.kIn hl) rr h) fun r s' hq => ?_)
  have z := wish_of hx I hq
  cases r with
  | error e => exact z
  | ok fl => cases fl <;> exact z
theorem pe_callG (G : FnG X.prog X.w X.K X.mg X.base CX k f fd ps sp) (hr : RoomG k X.A) (hg : Gl X x) (hm : X.mg x = some (.ref f)) (hk : PySem.W.keepIn X.K (.ref f) = true) (hb : Binds X.K fd ps ds) (hd : Vals dvs ds) (hx : Passes CX X E)
    (ha : PA X (e :: es) t) (hdb : (x == ("__debug__" : Str)) = false := by decide) (he : starEach (e :: es) X.env = (false, eval e X.env) :: starEach es X.env := by rfl) (hpl : (backTo pos (starEach es X.env)).any (·.1) = false := by rfl) :
    PE X (.Call (.Name x p) (e :: es) [] pos) (tCall sp dvs E t) := ⟨fun pins s σ H Q I h =>
  wpAny_Call_Name_kw (ld_glob I hg hm (PySem.W.callWith_K (h₀ := X.base) I.ok.mod.kin hk (thn (ha.run pos pins s σ H _ I h) fun us s1 ⟨vs, H1, I1, r, q⟩ => ⟨I1.kIn, run_g G hr hb hd hx I1 r q⟩) he hpl) hdb)⟩
/-- keywords: all parameters, or some behind positional ones -/
theorem run_gk {pins : List (Addr × Obj)} {σ : L2.St} {H : Hp} {s : Shared} {Q : VK} {us ws : List Value} {vs zs : List V} {g : List Value → List Value → List Value} {gV : List V → List V → List V} (G : FnG X.prog X.w X.K X.mg X.base CX k f fd ps sp) (hr : RoomG k X.A) (hb : KBinds X.K fd ps ks g gV) (hx : Passes CX X E)
    (I : Inv X pins σ H s) (r : Vals vs us) (rz : Vals zs ws) (h : sp (gV vs zs) H Q E) : wpAny (model X.prog X.w) X.A (call (.ref f) us (ks.zip ws)) (EP X pins σ Q) X.xe s := by
  have rr := hb.rel r rz
  have hl : (g us ws).length = ps.length := rr.length.symm.trans (G.len _ _ _ _ h)
  refine wpAny_call (codeAny_mono (G.run X.A X.stack s H ⟨us, ks.zip ws⟩ (g us ws) (gV vs zs) Q E hr I.env0 (hb.to s us ws I.kIn hl) rr h) fun r s' hq => ?_)
  have z := wish_of hx I hq
  cases r with
  | error e => exact z
  | ok fl => cases fl <;> exact z
end

/-! ### promises over data -/
abbrev XT := DX → Prop
abbrev TF := XT → List D → (D → Prop) → Prop
/-- the class of this name -/
def clsAt (K : PySem.W.Frag) (n : Str) : Value := match PySem.W.nsIn K mainGlobals n with
  | some (some v) => v
  | _ => .none
/-- an exception below: its class, its own dict -/
def XRep (K : PySem.W.Frag) (Z : Zn) (N : Addr → Prop) (H : Hp) (x : DX) (c : Value) (od : Option Addr) : Prop :=
  c = clsAt K x.cls ∧ ((x.fs = [] ∧ od = none) ∨ ∃ d vs, od = some d ∧ ¬ N d ∧ H d = some (.xd ((x.fs.map (·.1)).zip vs)) ∧ Reps K Z N H (x.fs.map (·.2)) vs)
structure BOk (K : PySem.W.Frag) (Z : Zn) (B : Addr → Prop) (H : Hp) : Prop where
  deck : DeckOk Z H
  zin : ∀ p, InZ Z p → B p
  all : ∀ p, B p → ∃ o, H p = some o ∧ Kp o
  tb : Z.tabs = tabsOf K
def spD (K : PySem.W.Frag) (n : Nat) (T : TF) : Sp := fun vs H Q E => ∃ (Z : Zn) (B : Addr → Prop) (ds : List D) (Qd : D → Prop) (Ed : DX → Prop), BOk K Z B H ∧ Reps K Z B H ds vs ∧ ds.length = n ∧ T Ed ds Qd ∧
  (∀ v H' d, Ext Z H H' → Rep K Z B H' d v → Qd d → Q v H') ∧ ∀ x c od H', Ext Z H H' → XRep K Z B H' x c od → Ed x → E c od H'
theorem NOk.bok {F : FP} {N : Addr → Prop} {H : Hp} (n : NOk F N H) : BOk F.K F.Z N H := ⟨n.deck, n.z, n.all, n.tb⟩
def startD (n : Nat) (ds : List D) : SE := ds.map Slot.d ++ List.replicate (n - ds.length) .un
theorem start_ok {K : PySem.W.Frag} {Z : Zn} {B : Addr → Prop} {H : Hp} {ds : List D} {vs : List V} {Ed : XW} {N : List Str} (b : BOk K Z B H) (r : Reps K Z B H ds vs) : FOk ⟨K, Z, B, H, Ed, B, H⟩ B (start N vs) H (startD N.length ds) where
  n := ⟨b.deck, .refl, fun _ h => h, b.zin, b.all, fun _ h n => (n h).elim, .refl, b.tb⟩
  len := by simp [L2.start, startD, r.length]
  slot := fun i s h => by
    unfold startD at h
    by_cases hi : i < ds.length
    · rw [List.getElem?_append_left (by simpa using hi), List.getElem?_map] at h
      obtain ⟨d, hd⟩ : ∃ d, ds[i]? = some d := ⟨_, List.getElem?_eq_getElem hi⟩
      rw [hd] at h
      cases h
      obtain ⟨v, h1, h2⟩ := r.get hd
      refine ⟨v, ?_, h2⟩
      unfold L2.start
      rw [List.getElem?_append_left (by simpa [← r.length] using hi), List.getElem?_map, h1]
      rfl
    · rw [List.getElem?_append_right (by simpa using Nat.le_of_not_lt hi), List.getElem?_replicate] at h
      split at h
      · cases h; trivial
      · cases h
  apart := fun i j p xs ys _ h => by
    exfalso
    have : Slot.own xs ∈ startD N.length ds := List.mem_of_getElem? h
    unfold startD at this
    rcases List.mem_append.mp this with q | q
    · obtain ⟨d, _, e⟩ := List.mem_map.mp q; cases e
    · cases (List.mem_replicate.mp q).2
/-- what a def does with data: its body's reading -/
def tfOf (n : Nat) (T : TDS) : TF := fun ξ ds Q => T (fun x _ => ξ x) { nx := fun _ => Q .non, rt := Q } (startD n ds)
section
variable {P : Program} {w : World} {K : PySem.W.Frag} {mg : Str → Option Value} {base : Heap} {k : Nat} {f : Addr} {fd : FuncData} {N ps : List Str}
/-- a def that lets nothing out -/
theorem fng_data {x qual : Str} {params : Arguments} {body : List Stmt} {scope : Scope} {dvs : List V} {kws : List (Str × V)} {T : TDS} (Fd : FunD K x qual params body scope dvs kws f fd) (S : FnScope N ps scope)
    (hb : ∀ (cdv : Value) (A : Around) (outer : List Env) (s : Shared) (H : Hp) (E : XK) (F : FP), F.K = K → F.ex = (fun _ _ => False) → RoomG k (A.deeper (envOfC qual scope s.heap.objs.size f cdv)) →
      PSs (cxOf CX0 P w K mg base N qual scope f cdv A outer s H E).nox body (sD F T)) : FnG P w K mg base CX0 (k + 1) f fd ps (spD K ps.length fun _ ds Q => tfOf N.length T (fun _ => False) ds Q) := by
  refine fng_of Fd S ?_ ?_
  · rintro vs H Q E ⟨Z, B, ds, Qd, Ed, b, r, hl, _⟩
    rw [← r.length, hl]
  · rintro cdv A outer s H vs Q E room ⟨Z, B, ds, Qd, Ed, b, r, hl, hT, hq, _⟩
    refine ⟨_, (hb cdv A outer s H E ⟨K, Z, B, H, fun _ _ => False, B, H⟩ rfl rfl room).nox, ?_⟩
    exact ⟨B, _, _, start_ok b r, hT, ⟨fun N' σ' H' env' f' _ q => hq _ _ _ f'.n.ext rep_non q, fun v H' d e r' q => hq v H' d e r' q, fun _ _ _ _ _ _ q => q.elim, fun _ _ _ _ _ _ q => q.elim⟩⟩
end

/-! ### calls over data -/
section
variable {X : Cx} {F : FP} {k n : Nat} {f : Addr} {fd : FuncData} {ps ks : List Str} {x : Str} {p pos : Pos} {e : Expr} {es : List Expr} {kws : List Keyword} {Tas Tks : TDA} {T : TF}
def dCall (n : Nat) (T : TF) (Ta : TDA) : TDE := fun ξ env Q => Ta ξ env fun ds => ds.length = n ∧ T (fun _ => False) ds Q
theorem tCall_imp (hK : F.K = X.K) : ∀ σ H Q, tD F (dCall n T Tas) σ H Q → tCall (spD X.K n T) [] E0 (tDA F Tas) σ H Q := by
  rintro σ H Q ⟨N, env, Qd, f, hT, k⟩
  refine ⟨N, env, _, f, hT, fun vs H1 ds e1 r1 q1 => ?_⟩
  have n1 := (f.ext' e1).n
  refine ⟨F.Z, N, ds, Qd, _, by rw [← hK]; exact n1.bok, by rw [List.append_nil, ← hK]; exact r1, q1.1, q1.2, fun v H2 d e2 r2 q2 => k v H2 d (e1.trans e2) (by rw [hK]; exact r2) q2, fun _ _ _ _ _ _ z => z⟩
/-- f(e, ..): all parameters, by position -/
theorem d_call (G : FnG X.prog X.w X.K X.mg X.base CX0 k f fd ps (spD X.K n T)) (hK : F.K = X.K) (hr : RoomG k X.A) (hg : Gl X x) (hm : X.mg x = some (.ref f)) (hk : PySem.W.keepIn X.K (.ref f) = true) (hb : Binds X.K fd ps [])
    (ha : PA X (e :: es) (tDA F Tas)) (hdb : (x == ("__debug__" : Str)) = false := by decide) (he : starEach (e :: es) X.env = (false, eval e X.env) :: starEach es X.env := by rfl) (hpl : (backTo pos (starEach es X.env)).any (·.1) = false := by rfl) :
    PE X (.Call (.Name x p) (e :: es) [] pos) (tD F (dCall n T Tas)) :=
  PE.imp (pe_callG G hr hg hm hk hb .nil pass0 ha hdb he hpl) (tCall_imp hK)

/-! ### calls by name -/
theorem PK.imp {t t' : TA} (h : PK X kws t) (hi : ∀ σ H Q, t' σ H Q → t σ H Q) : PK X kws t' := ⟨fun pos pins s σ H Q I hw => h.run pos pins s σ H Q I (hi _ _ _ hw)⟩
theorem dk_nil : PK X [] (tDA F dNil) := PK.imp pk_nil (by
  rintro σ H Q ⟨N, env, Qd, f, hT, k⟩
  exact k [] H [] Ext.refl rfl hT)
theorem dk_cons {nm : Option Str} {kpos : Pos} {Ta : TDE} {Tr : TDA} (ha : PE X e (tD F Ta)) (hr : PK X kws (tDA F Tr)) : PK X (⟨nm, e, kpos⟩ :: kws) (tDA F (dCons Ta Tr)) := PK.imp (pk_cons ha hr) tCons_imp
/-- the values in the parameters' order -/
def perm {α : Type} : List Nat → List α → List α
  | [], _ => []
  | i :: r, l => match l[i]? with
    | some x => x :: perm r l
    | none => perm r l
theorem perm_vals {vs : List V} {us : List Value} (r : Vals vs us) : ∀ idx : List Nat, Vals (perm idx vs) (perm idx us)
  | [] => .nil
  | i :: idx => by
    unfold perm
    cases q : vs[i]? with
    | none => rw [r.none_of q]; exact perm_vals r idx
    | some v =>
      obtain ⟨u, h1, h2⟩ := r.get q
      rw [h1]
      exact .cons h2 (perm_vals r idx)
theorem perm_reps {K : PySem.W.Frag} {Z : Zn} {N : Addr → Prop} {H : Hp} {ds : List D} {vs : List V} (r : Reps K Z N H ds vs) : ∀ idx : List Nat, Reps K Z N H (perm idx ds) (perm idx vs)
  | [] => rfl
  | i :: idx => by
    unfold perm
    cases q : ds[i]? with
    | none =>
      have : vs[i]? = none := by
        rw [List.getElem?_eq_none_iff] at q ⊢
        rw [← r.length]; exact q
      rw [this]; exact perm_reps r idx
    | some d =>
      obtain ⟨v, h1, h2⟩ := r.get q
      rw [h1]
      exact ⟨v, _, rfl, h2, perm_reps r idx⟩
def KB (fd : FuncData) (ps ks : List Str) (idx : List Nat) : Prop := ∀ (s : Shared) (ws : List Value), ws.length = ks.length → BindsTo s fd ⟨[], ks.zip ws⟩ (ps.zip (perm idx ws))
def tCallP (m : Nat) (sp : Sp) (idx : List Nat) (E : XK) (tk : TA) : TE := fun σ H Q => tk σ H fun zs H2 => zs.length = m ∧ sp (perm idx zs) H2 Q E
theorem run_gp {CX : CXT} {sp : Sp} {E : XK} {idx : List Nat} {pins : List (Addr × Obj)} {σ : L2.St} {H : Hp} {s : Shared} {Q : VK} {ws : List Value} {zs : List V} (G : FnG X.prog X.w X.K X.mg X.base CX k f fd ps sp) (hr : RoomG k X.A) (hb : KB fd ps ks idx) (hx : Passes CX X E)
    (I : Inv X pins σ H s) (rz : Vals zs ws) (hl : zs.length = ks.length) (h : sp (perm idx zs) H Q E) : wpAny (model X.prog X.w) X.A (call (.ref f) [] (ks.zip ws)) (EP X pins σ Q) X.xe s := by
  refine wpAny_call (codeAny_mono (G.run X.A X.stack s H ⟨[], ks.zip ws⟩ (perm idx ws) (perm idx zs) Q E hr I.env0 (hb s ws (rz.length.symm.trans hl)) (perm_vals rz idx) h) fun r s' hq => ?_)
  have z := wish_of hx I hq
  cases r with
  | error e => exact z
  | ok fl => cases fl <;> exact z
theorem pe_callP {CX : CXT} {sp : Sp} {E : XK} {idx : List Nat} {tk : TA} (G : FnG X.prog X.w X.K X.mg X.base CX k f fd ps sp) (hr : RoomG k X.A) (hg : Gl X x) (hm : X.mg x = some (.ref f)) (hk : PySem.W.keepIn X.K (.ref f) = true) (hb : KB fd ps ks idx) (hx : Passes CX X E)
    (hkw : PK X kws tk) (hall : (backToKw pos (keywordEach kws X.env)).all (·.1.isSome) = true := by rfl) (hks : (backToKw pos (keywordEach kws X.env)).filterMap (·.1) = ks := by rfl) (hdb : (x == ("__debug__" : Str)) = false := by decide)
    (hpl : ((backTo pos (starEach [] X.env)).any (·.1) || (backToKw pos (keywordEach kws X.env)).any (·.1.isNone)) = false := by rfl) : PE X (.Call (.Name x p) [] kws pos) (tCallP ks.length sp idx E tk) := ⟨fun pins s σ H Q I h => by
  refine wpAny_Call_Name_kw (ld_glob I hg hm (PySem.W.callWith_KW0 (h₀ := X.base) I.ok.mod.kin hk hall ?_ hpl) hdb)
  refine thn (hkw.run pos pins s σ H _ I h) ?_
  rintro ws s2 ⟨zs, H2, I2, rz, l2, q2⟩
  rw [hks]
  exact ⟨I2.kIn, run_gp G hr hb hx I2 rz l2 q2⟩⟩
def dCallK (m n : Nat) (idx : List Nat) (T : TF) (Tk : TDA) : TDE := fun ξ env Q => Tk ξ env fun ds => (ds.length = m ∧ (perm idx ds).length = n) ∧ T (fun _ => False) (perm idx ds) Q
theorem d_callK {idx : List Nat} {m : Nat} (G : FnG X.prog X.w X.K X.mg X.base CX0 k f fd ps (spD X.K n T)) (hK : F.K = X.K) (hr : RoomG k X.A) (hg : Gl X x) (hm : X.mg x = some (.ref f)) (hk : PySem.W.keepIn X.K (.ref f) = true) (hb : KB fd ps ks idx)
    (hkw : PK X kws (tDA F Tks)) (hall : (backToKw pos (keywordEach kws X.env)).all (·.1.isSome) = true := by rfl) (hks : (backToKw pos (keywordEach kws X.env)).filterMap (·.1) = ks := by rfl) (hdb : (x == ("__debug__" : Str)) = false := by decide)
    (hpl : ((backTo pos (starEach [] X.env)).any (·.1) || (backToKw pos (keywordEach kws X.env)).any (·.1.isNone)) = false := by rfl) (hml : ks.length = m := by rfl) : PE X (.Call (.Name x p) [] kws pos) (tD F (dCallK m n idx T Tks)) :=
  PE.imp (pe_callP G hr hg hm hk hb pass0 hkw hall hks hdb hpl) (by
  subst hml
  rintro σ H Q ⟨N, env, Qd, f, hT, k⟩
  refine ⟨N, env, _, f, hT, fun vs H1 ds e1 r1 q1 => ⟨r1.length.symm.trans q1.1.1, ?_⟩⟩
  have n1 := (f.ext' e1).n
  refine ⟨F.Z, N, perm idx ds, Qd, _, by rw [← hK]; exact n1.bok, by rw [← hK]; exact perm_reps r1 idx, q1.1.2, q1.2, fun v H2 d e2 r2 q2 => k v H2 d (e1.trans e2) (by rw [hK]; exact r2) q2, fun _ _ _ _ _ _ z => z⟩)
end

/-! ### comprehensions -/
section
variable {X : Cx} {F : FP}
def wipeD (env : SE) : List Nat → SE
  | [] => env
  | v :: vs => (wipeD env vs).set v .un
theorem FOk.un {N : Addr → Prop} {σ : L2.St} {H : Hp} {env : SE} (f : FOk F N σ H env) (i : Nat) : FOk F N (σ.set i none) H (env.set i .un) where
  n := f.n
  len := by rw [List.length_set, List.length_set]; exact f.len
  slot := fun j s h => by
    by_cases hj : i = j
    · subst hj
      have hl : i < env.length := by
        have := (List.getElem?_eq_some_iff.mp h).1
        rwa [List.length_set] at this
      rw [List.getElem?_set_self hl] at h
      cases h
      trivial
    · rw [List.getElem?_set_ne hj] at h
      rw [List.getElem?_set_ne hj]
      exact f.slot j s h
  apart := fun j k p xs ys hjk h1 h2 h3 h4 => by
    have o : ∀ {j : Nat} {xs : List D}, (env.set i .un)[j]? = some (.own xs) → i ≠ j ∧ env[j]? = some (.own xs) := fun {j xs} h => by
      by_cases hj : i = j
      · subst hj
        have hl : i < env.length := by
          have := (List.getElem?_eq_some_iff.mp h).1
          rwa [List.length_set] at this
        rw [List.getElem?_set_self hl] at h
        cases h
      · rw [List.getElem?_set_ne hj] at h
        exact ⟨hj, h⟩
    obtain ⟨n1, h1⟩ := o h1
    obtain ⟨n2, h2⟩ := o h2
    rw [List.getElem?_set_ne n1] at h3
    rw [List.getElem?_set_ne n2] at h4
    exact f.apart j k p xs ys hjk h1 h2 h3 h4
theorem FOk.wipe {N : Addr → Prop} {σ : L2.St} {H : Hp} {env : SE} (f : FOk F N σ H env) : ∀ vs : List Nat, FOk F N (L2.wipe σ vs) H (wipeD env vs)
  | [] => f
  | v :: vs => (f.wipe vs).un v
/-- another wish -/
theorem FOk.wish {N : Addr → Prop} {σ : L2.St} {H : Hp} {env : SE} (f : FOk F N σ H env) (ex : XW) : FOk { F with ex := ex } N σ H env := ⟨⟨f.n.deck, f.n.ext, f.n.sub, f.n.zin, f.n.all, f.n.new, f.n.gr, f.n.tb⟩, f.len, fun i s h => by
  have q := f.slot i s h
  cases s <;> exact q, f.apart⟩
theorem FOk.unwish {N : Addr → Prop} {σ : L2.St} {H : Hp} {env : SE} {ex : XW} (f : FOk { F with ex := ex } N σ H env) : FOk F N σ H env := ⟨⟨f.n.deck, f.n.ext, f.n.sub, f.n.zin, f.n.all, f.n.new, f.n.gr, f.n.tb⟩, f.len, fun i s h => by
  have q := f.slot i s h
  cases s <;> exact q, f.apart⟩
/-- another list of the def's own comes -/
theorem FOk.with {N : Addr → Prop} {σ : L2.St} {H : Hp} {env : SE} (f : FOk F N σ H env) {p : Addr} {o : HO} (hk : Kp o) (hp : H p = none) (nb : ¬ F.B p) : FOk F (fun q => N q ∨ q = p) σ (upd H p o) env := by
  have e := f.n.lay (o := o) hp
  have f1 := f.ext' e
  have mv : ∀ r u, ¬ N r → Kp u → H r = some u → upd H p o r = some u ∧ ¬ (N r ∨ r = p) := fun r u n k h => by
    have ne := ne_of_none h hp
    exact ⟨by rw [upd_ne ne]; exact h, fun z => z.elim n ne⟩
  refine ⟨⟨f1.n.deck, f1.n.ext, fun q h => .inl (f1.n.sub q h), f1.n.zin, fun q h => ?_, fun q h n => ?_, f.n.gr.trans mv, f.n.tb⟩, f1.len, fun i s h => ?_, f1.apart⟩
  · rcases h with h | rfl
    · exact f1.n.all q h
    · exact ⟨o, upd_same, hk⟩
  · rcases h with h | rfl
    · exact f1.n.new q h n
    · exact f.n.new0 hp
  · have q := f.slot i s h
    cases s with
    | un => trivial
    | raw v => exact q
    | d x =>
      obtain ⟨v, h1, h2⟩ := q
      exact ⟨v, h1, Rep.mono mv x v h2⟩
    | own xs =>
      obtain ⟨r, vs, h1, h2, h3, h4, h5⟩ := q
      exact ⟨r, vs, h1, .inl h2, h3, by rw [upd_ne (ne_of_none h4 hp)]; exact h4, Reps.mono mv xs vs h5⟩
theorem FOk.nb {N : Addr → Prop} {σ : L2.St} {H : Hp} {env : SE} (f : FOk F N σ H env) {p : Addr} (hp : H p = none) : ¬ F.B p := fun z => f.n.fresh hp (f.n.sub p z)
/-- over the items: the target, the test, the element -/
def lcD (G : TDG) (tt : TDT) (te : TDE) (env : SE) : List D → (List D → Prop) → Prop
  | [], Q => Q []
  | d :: ds, Q => G d env fun env' => tt (fun _ _ => False) env' fun b => if b = true then te (fun _ _ => False) env' fun y => lcD G tt te env ds fun ys => Q (y :: ys) else lcD G tt te env ds Q
def dYes : TDT := fun _ _ Q => Q true
theorem dts_nil : PTs X [] (tDT F dYes) := ⟨fun pins s σ H Q I hw => pts_nil.run pins s σ H Q I (by
  obtain ⟨N, env, Qd, f, hT, k⟩ := hw
  exact k _ _ Ext.refl hT)⟩
theorem dts_one {c : Expr} {t : TDT} (h : PT X c (tDT F t)) : PTs X [c] (tDT F t) := pts_one h
end
end DL
set_option Elab.async false
set_option linter.all false
set_option maxRecDepth 100000
namespace DL
open PySem PySem.Spec L2
open PyProof.Rows hiding St
section
variable {X : Cx} {F : FP} {Ta : TDE} {Tas : TDA}
theorem FOk.with' {N : Addr → Prop} {σ : L2.St} {H H' : Hp} {env : SE} (f : FOk F N σ H env) {p : Addr} {o : HO} (hk : Kp o) (hp : H p = none) (e : Ext F.Z H H') (ho : H' p = some o) : FOk F (fun q => N q ∨ q = p) σ H' env := by
  have f1 := f.ext' e
  have mv : ∀ r u, ¬ N r → Kp u → H r = some u → H' r = some u ∧ ¬ (N r ∨ r = p) := fun r u n k h =>
    ⟨e.keep r u (fun z => n (f.n.z r z)) k h, fun z => z.elim n (ne_of_none h hp)⟩
  refine ⟨⟨f1.n.deck, f1.n.ext, fun q h => .inl (f1.n.sub q h), f1.n.zin, fun q h => ?_, fun q h n => ?_, f.n.gr.trans mv, f.n.tb⟩, f1.len, fun i s h => ?_, f1.apart⟩
  · rcases h with h | rfl
    · exact f1.n.all q h
    · exact ⟨o, ho, hk⟩
  · rcases h with h | rfl
    · exact f1.n.new q h n
    · exact f.n.new0 hp
  · have q := f.slot i s h
    cases s with
    | un => trivial
    | raw v => exact q
    | d x =>
      obtain ⟨v, h1, h2⟩ := q
      exact ⟨v, h1, Rep.mono mv x v h2⟩
    | own xs =>
      obtain ⟨r, vs, h1, h2, h3, h4, h5⟩ := q
      exact ⟨r, vs, h1, .inl h2, h3, e.keep r _ (fun z => h3 (f.n.zin r z)) kp_lst h4, Reps.mono mv xs vs h5⟩
/-- what a comprehension has made so far -/
structure LcAt (F : FP) (N : Addr → Prop) (H1 : Hp) (D : Addr) (G : TDG) (tt : TDT) (te : TDE) (env : SE) (all : List DL.D) (Qd : DL.D → Prop) (i : Nat) (H' : Hp) : Prop where
  ext : Ext F.Z H1 H'
  at_ : ∃ (acc : List V) (ds : List DL.D), H' D = some (.lst acc) ∧ acc.length ≤ i ∧ Reps F.K F.Z (fun q => N q ∨ q = D) H' ds acc ∧ lcD G tt te env (all.drop i) fun ys => Qd (.lst (ds ++ ys))
end
end DL
namespace DL
open PySem PySem.Spec L2
open PyProof.Rows hiding St
section
variable {X : Cx} {F : FP} {Ta : TDE} {Tas : TDA} {N : Addr → Prop} {σ : L2.St} {H1 H' : Hp} {env : SE} {A : Addr} {tt : TDT} {te : TDE} {all : List D} {Qd : D → Prop} {j : Nat}
abbrev FP.calm (F : FP) : FP := { F with ex := fun _ _ => False }
theorem lc_start (n : NOk F N H1) (hA : H1 A = none) {G : TDG} (h : lcD G tt te env all fun ys => Qd (.lst ys)) : LcAt F N H1 A G tt te env all Qd 0 (upd H1 A (.lst [])) :=
  ⟨n.lay hA, [], [], upd_same, Nat.le_refl _, rfl, by simpa using h⟩
theorem lc_turn (f : FOk F N σ H1 env) (hA : H1 A = none) (hz : all.length ≤ sizeLine) {i : Nat} {d : D} {x : V} (hd : all[i]? = some d) (r : Rep F.K F.Z N H1 d x) (L : LcAt F N H1 A (dgName j) tt te (wipeD env [j]) all Qd i H') :
    gName j x (L2.wipe σ [j]) H' fun σ2 H2 => L2.wipe σ2 [j] = L2.wipe σ [j] ∧ tDT F.calm tt σ2 H2 fun b H3 =>
      if b = true then tD F.calm te σ2 H3 fun y H4 => ∃ acc, H4 A = some (.lst acc) ∧ acc.length < sizeLine ∧ LcAt F N H1 A (dgName j) tt te (wipeD env [j]) all Qd (i + 1) (upd H4 A (.lst (acc ++ [y]))) else LcAt F N H1 A (dgName j) tt te (wipeD env [j]) all Qd (i + 1) H3 := by
  obtain ⟨ext, acc, ds, h1, h2, h3, h4⟩ := L
  obtain ⟨hi, e⟩ := List.getElem?_eq_some_iff.mp hd
  rw [List.drop_eq_getElem_cons hi, e] at h4
  have f1 : FOk F (fun q => N q ∨ q = A) (L2.wipe σ [j]) H' (wipeD env [j]) := (f.with' kp_lst hA ext h1).wipe [j]
  have mv : ∀ r u, ¬ N r → Kp u → H1 r = some u → H' r = some u ∧ ¬ (N r ∨ r = A) := fun r u n k h => ⟨ext.keep r u (fun z => n (f.n.z r z)) k h, fun z => z.elim n (ne_of_none h hA)⟩
  have r1 : Rep F.K F.Z (fun q => N q ∨ q = A) H' d x := Rep.mono mv d x r
  have nz : ∀ p, InZ F.Z p → p ≠ A := fun p z e => by
    obtain ⟨o, q, _⟩ := f.n.all p (f.n.z p z)
    rw [e, hA] at q; cases q
  refine ⟨by simp [L2.wipe, List.set_set], ?_⟩
  refine ⟨_, _, _, (f1.set j r1).wish _, h4, fun b H3 e3 q3 => ?_⟩
  have x3 := ext.trans e3
  have a3 : H3 A = some (.lst acc) := e3.keep A _ (fun z => nz A z rfl) kp_lst h1
  have f3 := f1.ext' e3
  by_cases hb : b = true
  · subst hb
    rw [if_pos rfl] at q3
    refine iteT ?_
    refine ⟨_, _, _, ((f1.set j r1).ext' e3).wish _, q3, fun y H4 dy e4 ry q4 => ?_⟩
    have a4 : H4 A = some (.lst acc) := e4.keep A _ (fun z => nz A z rfl) kp_lst a3
    have x4 := x3.trans e4
    refine ⟨acc, a4, by omega, ⟨fun p o n k h => ?_, fun dk => ?_⟩, acc ++ [y], ds ++ [dy], upd_same, by simp; omega, ?_, ?_⟩
    · rw [upd_ne (ne_of_none h hA)]
      exact x4.keep p o n k h
    · refine ⟨fun a l ez => ?_, fun p hp => ?_⟩
      · obtain ⟨xs, m, c, k1, k2, k3⟩ := (x4.deck dk).1 a l ez
        exact ⟨xs, m, c, by rw [upd_ne (nz a ⟨a, l, ez, .inl rfl⟩)]; exact k1, by rw [upd_ne (nz l ⟨a, l, ez, .inr rfl⟩)]; exact k2, k3⟩
      · exact tab_upd a4 kp_lst (fun _ h => by cases h) ((x4.deck dk).2 p hp)
    · have mv4 : ∀ r u, ¬ (N r ∨ r = A) → Kp u → H4 r = some u → upd H4 A (.lst (acc ++ [y])) r = some u ∧ ¬ (N r ∨ r = A) := fun r u n _ h => ⟨by rw [upd_ne (fun z => n (.inr z))]; exact h, n⟩
      have h4' : Reps F.K F.Z (fun q => N q ∨ q = A) H4 ds acc := (h3.ext e3 f1.n.z).ext e4 f1.n.z
      exact (Reps.mono mv4 _ _ h4').snoc (Rep.mono mv4 _ _ ry)
    · have : (fun ys => Qd (.lst (ds ++ [dy] ++ ys))) = fun ys => Qd (.lst (ds ++ dy :: ys)) := by
        funext ys; rw [List.append_assoc]; rfl
      rw [this]
      exact q4
  · rw [Bool.not_eq_true] at hb
    subst hb
    rw [if_neg Bool.false_ne_true] at q3
    refine iteF ?_
    exact ⟨x3, acc, ds, a3, by omega, h3.ext e3 f1.n.z, q3⟩
theorem lc_end (f : FOk F N σ H1 env) (hA : H1 A = none) {G : TDG} {H0 : Hp} {Q : VK} (e : Ext F.Z H0 H1) (k : ∀ v H' d, Ext F.Z H0 H' → Rep F.K F.Z N H' d v → Qd d → Q v H') {n : Nat} (hn : all.length = n) (L : LcAt F N H1 A G tt te (wipeD env [j]) all Qd n H') : Q (.ref A) H' := by
  obtain ⟨ext, acc, ds, h1, h2, h3, h4⟩ := L
  rw [← hn, List.drop_length] at h4
  have h4 : Qd (.lst (ds ++ [])) := h4
  rw [List.append_nil] at h4
  exact k _ _ (.lst ds) (e.trans ext) ⟨A, acc, rfl, f.n.fresh hA, h1, h3.less fun p z => .inl z⟩ h4
def dLc (T : TDE) (j : Nat) (tt : TDT) (te : TDE) : TDE := fun ξ env Q => T ξ env fun d => match d with
  | .lst ds => ds.length ≤ sizeLine ∧ lcD (dgName j) tt te (wipeD env [j]) ds fun ys => Q (.lst ys)
  | _ => False
def dLcT (T : TDE) (j : Nat) (tt : TDT) (te : TDE) : TDE := fun ξ env Q => T ξ env fun d => match d with
  | .tup ds => ds.length ≤ sizeLine ∧ lcD (dgName j) tt te (wipeD env [j]) ds fun ys => Q (.lst ys)
  | _ => False
def dLcR (T : TDA) (j : Nat) (tt : TDT) (te : TDE) : TDE := fun ξ env Q => T ξ env fun ds => match ds with
  | [.int n] => (0 ≤ n ∧ n ≤ sizeLine) ∧ lcD (dgName j) tt te (wipeD env [j]) (intsD 0 n.toNat) fun ys => Q (.lst ys)
  | _ => False
theorem lc_imp : ∀ σ H Q, tD F (dLc Ta j tt te) σ H Q → tLc (iList F.K (tD F Ta)) (gName j) (tDT F.calm tt) (tD F.calm te) [j] σ H Q := by
  rintro σ H Q ⟨N, env, Qd, f, hT, k⟩
  refine ⟨N, env, _, f, hT, fun v H1 d e1 r q => ?_⟩
  cases d <;> first | exact q.elim | skip
  rename_i ds
  obtain ⟨a, vs, rfl, na, ra, rs⟩ := r
  have f1 := f.ext' e1
  refine ⟨a, rfl, ⟨vs, SqL.of ra⟩, fun A hA => ?_⟩
  refine lc_list (K := F.K) (a := a) (xs := vs) (fun i H' => LcAt F N H1 A (dgName j) tt te (wipeD env [j]) ds Qd i H') (lc_start f1.n hA q.2) (fun i H' _ L => SqL.of (L.ext.keep a _ (fun z => na (f.n.z a z)) kp_lst ra)) (fun i x H' hx L => ?_) (fun H' L => lc_end f1 hA e1 k rs.length L)
  obtain ⟨d, hd, rd⟩ := rs.getV hx
  exact lc_turn f1 hA q.1 hd rd L
theorem lcT_imp : ∀ σ H Q, tD F (dLcT Ta j tt te) σ H Q → tLc (iTup F.K (tD F Ta)) (gName j) (tDT F.calm tt) (tD F.calm te) [j] σ H Q := by
  rintro σ H Q ⟨N, env, Qd, f, hT, k⟩
  refine ⟨N, env, _, f, hT, fun v H1 d e1 r q => ?_⟩
  cases d <;> first | exact q.elim | skip
  rename_i ds
  obtain ⟨a, vs, rfl, ra, rs⟩ := r
  have f1 := f.ext' e1
  refine ⟨a, rfl, ⟨vs, sqt_of ra⟩, fun A hA => ?_⟩
  refine lc_tup (K := F.K) (a := a) (xs := vs) (fun i H' => LcAt F N H1 A (dgName j) tt te (wipeD env [j]) ds Qd i H') (lc_start f1.n hA q.2) (fun i H' _ L => ?_) (fun i x H' hx L => ?_) (fun H' L => lc_end f1 hA e1 k rs.length L)
  · refine sqt_of (N := N) ?_
    rcases ra with ⟨n, ra⟩ | ra
    · exact .inl ⟨n, L.ext.keep a _ (fun z => n (f.n.z a z)) kp_tup ra⟩
    · exact .inr ra
  obtain ⟨d, hd, rd⟩ := rs.getV hx
  exact lc_turn f1 hA q.1 hd rd L
theorem lcR_imp : ∀ σ H Q, tD F (dLcR Tas j tt te) σ H Q → tLc (iRng1 (tDA F Tas)) (gName j) (tDT F.calm tt) (tD F.calm te) [j] σ H Q := by
  rintro σ H Q ⟨N, env, Qd, f, hT, k⟩
  refine ⟨N, env, _, f, hT, fun vs H1 ds e1 r q => ?_⟩
  split at q
  · rename_i n
    obtain ⟨v, _, rfl, r1, r2⟩ := r
    cases r2
    have f1 := f.ext' e1
    have hs : (sizeLine : Nat) < 2 ^ 62 := by rw [sizeLine_eq]; decide
    refine ⟨n, by rw [show v = _ from r1], by omega, by omega, fun A hA => ?_⟩
    refine lc_range (lo := 0) (n := n.toNat) (fun i H' => LcAt F N H1 A (dgName j) tt te (wipeD env [j]) (intsD 0 n.toNat) Qd i H') (lc_start f1.n hA q.2) (fun i H' hi L => ?_) (fun H' L => lc_end f1 hA e1 k ints_len L)
    exact lc_turn f1 hA (by rw [ints_len]; omega) (ints_get hi) rep_int L
  · exact q.elim
variable {e elt iter a : Expr} {ifs : List Expr} {scope : Scope} {own : List (Str × Nat)} {pos p pos' : Pos} {tg : Expr}
theorem d_lc (hK : F.K = X.K) (hc : X.calm = true) (hN : X.N.Nodup) (hi : PE X iter (tD F Ta)) (ok : BlkOk X.N X.env.scope scope own) (hv : own.map (·.2) = [j])
    (hg : ∀ (s : Shared) (H : Hp) (C : Addr) (cl : List (Str × Addr)) (fp : List Addr), PG (X.blk s H scope (compEnvC scope cl C X.env) fp) tg (gName j)) (ht : ∀ (s : Shared) (H : Hp) (C : Addr) (cl : List (Str × Addr)) (fp : List Addr), PTs (X.blk s H scope (compEnvC scope cl C X.env) fp) ifs (tDT F.calm tt))
    (he : ∀ (s : Shared) (H : Hp) (C : Addr) (cl : List (Str × Addr)) (fp : List Addr), PE (X.blk s H scope (compEnvC scope cl C X.env) fp) elt (tD F.calm te)) (hs : ∀ x, foldedSetIterable iter X.env x = pure x := by intro _; rfl) :
    PE X (.ListComp elt [⟨tg, iter, ifs, 0⟩] scope pos) (tD F (dLc Ta j tt te)) := by
  have z := pe_lc (pos := pos) hc hN (pi_list hi) ok hg ht he hs
  rw [hv] at z
  exact PE.imp z (by rw [← hK]; exact lc_imp)
theorem d_lcT (hK : F.K = X.K) (hc : X.calm = true) (hN : X.N.Nodup) (hi : PE X iter (tD F Ta)) (ok : BlkOk X.N X.env.scope scope own) (hv : own.map (·.2) = [j])
    (hg : ∀ (s : Shared) (H : Hp) (C : Addr) (cl : List (Str × Addr)) (fp : List Addr), PG (X.blk s H scope (compEnvC scope cl C X.env) fp) tg (gName j)) (ht : ∀ (s : Shared) (H : Hp) (C : Addr) (cl : List (Str × Addr)) (fp : List Addr), PTs (X.blk s H scope (compEnvC scope cl C X.env) fp) ifs (tDT F.calm tt))
    (he : ∀ (s : Shared) (H : Hp) (C : Addr) (cl : List (Str × Addr)) (fp : List Addr), PE (X.blk s H scope (compEnvC scope cl C X.env) fp) elt (tD F.calm te)) (hs : ∀ x, foldedSetIterable iter X.env x = pure x := by intro _; rfl) :
    PE X (.ListComp elt [⟨tg, iter, ifs, 0⟩] scope pos) (tD F (dLcT Ta j tt te)) := by
  have z := pe_lc (pos := pos) hc hN (pi_tup hi) ok hg ht he hs
  rw [hv] at z
  exact PE.imp z (by rw [← hK]; exact lcT_imp)
theorem d_lcR (hK : F.K = X.K) (hc : X.calm = true) (hN : X.N.Nodup) (hgl : Gl X "range") (hm : X.mg "range" = none) (ha : PA X [a] (tDA F Tas)) (ok : BlkOk X.N X.env.scope scope own) (hv : own.map (·.2) = [j])
    (hg : ∀ (s : Shared) (H : Hp) (C : Addr) (cl : List (Str × Addr)) (fp : List Addr), PG (X.blk s H scope (compEnvC scope cl C X.env) fp) tg (gName j)) (ht : ∀ (s : Shared) (H : Hp) (C : Addr) (cl : List (Str × Addr)) (fp : List Addr), PTs (X.blk s H scope (compEnvC scope cl C X.env) fp) ifs (tDT F.calm tt))
    (he : ∀ (s : Shared) (H : Hp) (C : Addr) (cl : List (Str × Addr)) (fp : List Addr), PE (X.blk s H scope (compEnvC scope cl C X.env) fp) elt (tD F.calm te)) (hsa : starEach [a] X.env = [(false, eval a X.env)] := by rfl) (hs : ∀ x, foldedSetIterable (.Call (.Name "range" p) [a] [] pos') X.env x = pure x := by intro _; rfl) :
    PE X (.ListComp elt [⟨tg, .Call (.Name "range" p) [a] [] pos', ifs, 0⟩] scope pos) (tD F (dLcR Tas j tt te)) := by
  have z := pe_lc (pos := pos) hc hN (pi_range1 hgl hm ha hsa) ok hg ht he hs
  rw [hv] at z
  exact PE.imp z lcR_imp
end
end DL
set_option Elab.async false
set_option linter.all false
set_option maxRecDepth 100000
namespace DL
open PySem PySem.Spec L2
open PyProof.Rows hiding St
section
variable {X : Cx} {F : FP} {Ta Tb : TDE} {Tas : TDA} {e a b c : Expr} {es : List Expr} {pos : Pos} {st : Stmt}

theorem PS.or {t u : TS} (h1 : PS X st t) (h2 : PS X st u) : PS X st (fun De σ H => t De σ H ∨ u De σ H) := ⟨fun pins s σ H De I h => h.elim (h1.run pins s σ H De I) (h2.run pins s σ H De I)⟩
theorem PE.or {t u : TE} (h1 : PE X e t) (h2 : PE X e u) : PE X e (fun σ H Q => t σ H Q ∨ u σ H Q) := ⟨fun pins s σ H Q I h => h.elim (h1.run pins s σ H Q I) (h2.run pins s σ H Q I)⟩
/-- for x in name: a list or a tuple -/
def seqD : Option Slot → Option (List D)
  | some (.d (.tup ds)) => some ds
  | some (.d (.lst ds)) => some ds
  | _ => none
def dForV (i : Nat) (G : TDG) (B : TDS) : TDS := fun ξ De env => match seqD env[i]? with
  | some ds => forD G B ξ De ds env
  | none => False
theorem seqD_of {o : Option Slot} {ds : List D} (h : seqD o = some ds) : o = some (.d (.tup ds)) ∨ o = some (.d (.lst ds)) := by
  unfold seqD at h
  split at h
  · cases h; exact .inl rfl
  · cases h; exact .inr rfl
  · cases h
theorem ds_forV {i : Nat} {tg iter : Expr} {body : List Stmt} {G : TDG} {B : TDS} (hK : F.K = X.K) (hp : PassesOwn (model X.prog X.w) X.A X.env X.xe) (hc : X.calm = true) (hi : PE X iter (tVar i)) (hg : PG X tg (gD F G)) (hb : PSs X body (sD F B))
    (hs : ∀ x, foldedSetIterable iter X.env x = pure x := by intro _; rfl) : PS X (.For tg iter body [] pos) (sD F (dForV i G B)) :=
  PS.imp (PS.or (ds_for (pos := pos) hK hp hc (d_var hi) hg hb hs) (ds_forT (pos := pos) hK hp hc (d_var hi) hg hb hs)) (by
  rintro De σ H ⟨N, env, Dd, f, hT, ok⟩
  unfold dForV at hT
  split at hT
  · rename_i ds hd
    rcases seqD_of hd with e | e
    · refine .inr ⟨N, env, Dd, f, ?_, ok⟩
      unfold dForT dVar
      rw [e]
      exact hT
    · refine .inl ⟨N, env, Dd, f, ?_, ok⟩
      unfold dFor dVar
      rw [e]
      exact hT
  · exact hT.elim)
def dLcV (i j : Nat) (tt : TDT) (te : TDE) : TDE := fun ξ env Q => match seqD env[i]? with
  | some ds => ds.length ≤ sizeLine ∧ lcD (dgName j) tt te (wipeD env [j]) ds fun ys => Q (.lst ys)
  | none => False
theorem d_lcV {i j : Nat} {tt : TDT} {te : TDE} {elt iter tg : Expr} {ifs : List Expr} {scope : Scope} {own : List (Str × Nat)} (hK : F.K = X.K) (hc : X.calm = true) (hN : X.N.Nodup) (hi : PE X iter (tVar i)) (ok : BlkOk X.N X.env.scope scope own) (hv : own.map (·.2) = [j])
    (hg : ∀ (s : Shared) (H : Hp) (C : Addr) (cl : List (Str × Addr)) (fp : List Addr), PG (X.blk s H scope (compEnvC scope cl C X.env) fp) tg (gName j)) (ht : ∀ (s : Shared) (H : Hp) (C : Addr) (cl : List (Str × Addr)) (fp : List Addr), PTs (X.blk s H scope (compEnvC scope cl C X.env) fp) ifs (tDT F.calm tt))
    (he : ∀ (s : Shared) (H : Hp) (C : Addr) (cl : List (Str × Addr)) (fp : List Addr), PE (X.blk s H scope (compEnvC scope cl C X.env) fp) elt (tD F.calm te)) (hs : ∀ x, foldedSetIterable iter X.env x = pure x := by intro _; rfl) :
    PE X (.ListComp elt [⟨tg, iter, ifs, 0⟩] scope pos) (tD F (dLcV i j tt te)) :=
  PE.imp (PE.or (d_lc (pos := pos) hK hc hN (d_var hi) ok hv hg ht he hs) (d_lcT (pos := pos) hK hc hN (d_var hi) ok hv hg ht he hs)) (by
  rintro σ H Q ⟨N, env, Qd, f, hT, k⟩
  unfold dLcV at hT
  split at hT
  · rename_i ds hd
    rcases seqD_of hd with e | e
    · refine .inr ⟨N, env, Qd, f, ?_, k⟩
      unfold dLcT dVar
      rw [e]
      exact hT
    · refine .inl ⟨N, env, Qd, f, ?_, k⟩
      unfold dLc dVar
      rw [e]
      exact hT
  · exact hT.elim)

/-! ### isinstance(x, T) -/
def gIs (T : PyT) : G1 := fun x Q => typed x = true ∧ Q (.bl (isD T x))
theorem d_isi {T : PyT} {p p2 : Pos} {ty : Str} (hK : F.K = X.K) (hg : Gl X "isinstance") (hm : X.mg "isinstance" = none) (hg2 : Gl X ty) (hm2 : X.mg ty = none) (hv2 : bootBuiltins ty = some (.type T.name)) (ha : PE X a (tD F Ta)) (hn2 : ty ≠ "__name__" := by decide) (hd2 : (ty == ("__debug__" : Str)) = false := by decide)
    (he : starEach [a, .Name ty p2] X.env = (false, eval a X.env) :: starEach [.Name ty p2] X.env := by rfl) (he2 : starEach [.Name ty p2] X.env = (false, eval (.Name ty p2) X.env) :: starEach [] X.env := by rfl) (hpl : (backTo pos (starEach [.Name ty p2] X.env)).any (·.1) = false := by rfl) :
    PE X (.Call (.Name "isinstance" p) [a, .Name ty p2] [] pos) (tD F (dUn (gIs T) Ta)) :=
  PE.imp (pe_callB call_isi hg hm (by decide +kernel) (pa_cons ha (pa_cons (pe_bltn (v := .ty T.name) hg2 hm2 hv2 rfl hn2 hd2) pa_nil he2) he) (by decide) (by decide) he hpl) (by
  rintro σ H Q ⟨N, env, Qd, f, hT, k⟩
  refine ⟨N, env, _, f, hT, fun v H1 d e1 r q => ?_⟩
  obtain ⟨t, h3, h4⟩ := tyx_of q.1 r
  rw [hK] at h3 h4
  exact ⟨v, _, _, _, _, rfl, .ty _, h3, h4 T, k _ _ _ e1 rep_bl q.2⟩)

/-! ### repr -/
def showOk (d : D) : Prop := plain d = true ∧ (toP d).showable = true ∧ (toP d).hasDict = false ∧ (toP d).depth ≤ 64 ∧ ((toP d).shown).length ≤ sizeLine
def gRepr : GA := fun xs Q => match xs with
  | [d] => showOk d ∧ Q (.str (toP d).shown)
  | _ => False
def rRepr (K : PySem.W.Frag) : List V → Hp → VK → Prop := fun vs H Q => ∃ v d, vs = [v] ∧ Dp K H v d ∧ d.showable = true ∧ d.hasDict = false ∧ d.depth ≤ 64 ∧ d.shown.length ≤ sizeLine ∧ Q (.str d.shown) H
theorem cr_repr (hg : X.A.guards = some []) (hu : X.A.units + 80 < cLine) : CallR X (.builtin "repr") (rRepr X.K) := by
  intro pins s σ H vs us Q I r h
  obtain ⟨v, d, rfl, dp, h1, h2, h3, h4, q⟩ := h
  obtain ⟨u, rfl, rv⟩ := vals1 r
  obtain ⟨as, rd⟩ := Dp.reads I d v u dp rv
  cases rd with
  | none => exact PySem.P.repr_of_none ⟨.str _, H, I.tok _, ⟨_, rfl⟩, q⟩
  | bool b => exact PySem.P.repr_of_bool ⟨.str _, H, I.tok _, ⟨_, rfl⟩, q⟩
  | int i t => exact PySem.P.repr_of_int (of_decide_eq_true h1) ⟨.str _, H, I.tok _, ⟨_, rfl⟩, q⟩
  | str x t => exact PySem.P.repr_of_str ⟨.str _, H, I.tok _, ⟨_, rfl⟩, q⟩ h4
  | list e1 e2 e3 e4 =>
    exact repr_of_reads' (h₀ := s.heap) (.list e1 e2 e3 e4) h1 (fun z => by rw [h2] at z; cases z) hg (by omega) (fun _ _ z => z) (fun h' u tk hk => ⟨.str _, H, I.kept (t' := tk) hk, ⟨_, rfl⟩, q⟩) h4
  | tuple e1 e2 e3 e4 =>
    exact repr_of_reads' (h₀ := s.heap) (.tuple e1 e2 e3 e4) h1 (fun z => by rw [h2] at z; cases z) hg (by omega) (fun _ _ z => z) (fun h' u tk hk => ⟨.str _, H, I.kept (t' := tk) hk, ⟨_, rfl⟩, q⟩) h4
  | dict e1 e2 e3 e4 e5 => cases h2
theorem cd_repr : CallD F (rRepr F.K) gRepr := ⟨by
  intro N H vs ds Qd Q n r h k
  unfold gRepr at h
  split at h
  · rename_i d
    obtain ⟨v, r, rfl, h1, h2⟩ := r
    cases h2
    obtain ⟨⟨p, s1, s2, s3, s4⟩, q⟩ := h
    exact ⟨v, toP d, rfl, Rep.dp d v p h1, s1, s2, s3, s4, k _ _ _ Ext.refl rep_str q⟩
  · exact h.elim⟩
theorem d_repr {p : Pos} (hK : F.K = X.K) (hgd : X.A.guards = some []) (hu : X.A.units + 80 < cLine) (hg : Gl X "repr") (hm : X.mg "repr" = none) (ha : PA X (e :: es) (tDA F Tas))
    (he : starEach (e :: es) X.env = (false, eval e X.env) :: starEach es X.env := by rfl) (hpl : (backTo pos (starEach es X.env)).any (·.1) = false := by rfl) : PE X (.Call (.Name "repr" p) (e :: es) [] pos) (tD F (dCB gRepr Tas)) := by
  have z := cd_repr (F := F)
  rw [hK] at z
  exact d_callB z (cr_repr hgd hu) hg hm (by decide +kernel) ha (by decide) (by decide) he hpl

/-! ### isqrt -/
def gIsqrt : GA := fun xs Q => match xs with
  | [.int i] => (0 ≤ i ∧ i.toNat.log2 < 13500) ∧ ∀ r : Int, 0 ≤ r → r * r ≤ i → i < (r + 1) * (r + 1) → Q (.int r)
  | _ => False
def rIsqrt : List V → Hp → VK → Prop := fun vs H Q => ∃ i : Int, vs = [.int i] ∧ (0 ≤ i ∧ i.toNat.log2 < 13500) ∧ ∀ r : Int, 0 ≤ r → r * r ≤ i → i < (r + 1) * (r + 1) → Q (.int r) H
theorem cr_isqrt : CallR X (.builtin "math.isqrt") rIsqrt := by
  intro pins s σ H vs us Q I r h
  obtain ⟨i, rfl, ⟨h0, h1⟩, q⟩ := h
  obtain ⟨u, rfl, t, rfl⟩ := vals1 r
  have z := PySem.W.mg_run_isqrt i t (by omega) (by omega) (by omega)
  obtain ⟨z1, z2⟩ := Float64.isqrt_spec i.toNat
  refine call_function_meets PySem.W.MGF.kind_isqrt PySem.W.MGF.plain_isqrt PySem.W.MGF.entry_isqrt (PySem.W.MGF.args_isqrt _) z.meets ?_
  refine ⟨.int _, H, I.tok _, ⟨_, rfl⟩, q _ (Int.natCast_nonneg _) ?_ ?_⟩
  · have : ((Float64.isqrt i.toNat * Float64.isqrt i.toNat : Nat) : Int) ≤ (i.toNat : Int) := Int.ofNat_le.mpr z1
    rw [Int.toNat_of_nonneg h0, Int.natCast_mul] at this
    exact this
  · have : ((i.toNat : Nat) : Int) < (((Float64.isqrt i.toNat + 1) * (Float64.isqrt i.toNat + 1) : Nat) : Int) := Int.ofNat_lt.mpr z2
    rw [Int.toNat_of_nonneg h0, Int.natCast_mul] at this
    exact this
theorem cd_isqrt : CallD F rIsqrt gIsqrt := ⟨by
  intro N H vs ds Qd Q n r h k
  unfold gIsqrt at h
  split at h
  · obtain ⟨v, r, rfl, h1, h2⟩ := r
    cases h2
    exact ⟨_, by rw [show v = _ from h1], h.1, fun r h1 h2 h3 => k _ _ _ Ext.refl rep_int (h.2 r h1 h2 h3)⟩
  · exact h.elim⟩
theorem d_callBf {x : Str} {p : Pos} {bid : String} {r : List V → Hp → VK → Prop} {g : GA} (hg' : CallD F r g) (hc : CallR X (.builtin bid) r) (hg : Gl X x) (hm : X.mg x = some (.builtin bid)) (ha : PA X (e :: es) (tDA F Tas)) (hdb : (x == ("__debug__" : Str)) = false := by decide)
    (he : starEach (e :: es) X.env = (false, eval e X.env) :: starEach es X.env := by rfl) (hpl : (backTo pos (starEach es X.env)).any (·.1) = false := by rfl) : PE X (.Call (.Name x p) (e :: es) [] pos) (tD F (dCB g Tas)) :=
  PE.imp (pe_callBfun hc hg hm ha hdb he hpl) (tCB_imp hg')

/-! ### two or three names at once -/
theorem ds_par {i j : Nat} {x y : Str} {px py pt : Pos} {kt k2 pt2} (hc : X.calm = true) (hN : X.N.Nodup) (hi : X.N[i]? = some x) (hj : X.N[j]? = some y) (hij : i ≠ j)
    (hx : X.env.scope.names.lookup x = some .local) (hy : X.env.scope.names.lookup y = some .local) (ha : PA X [a, b] (tDA F Tas)) (hw : swappedStores [.Tuple [.Name x px, .Name y py] kt pt] (.Tuple [a, b] k2 pt2) X.env = pure (some [x, y]) := by rfl)
    (hs : swapsWithSole [.Tuple [.Name x px, .Name y py] kt pt] (.Tuple [a, b] k2 pt2) pos.line X.env = pure false := by rfl) : PS X (.Assign [.Tuple [.Name x px, .Name y py] kt pt] (.Tuple [a, b] k2 pt2) pos) (sD F (dPar i j Tas)) :=
  PS.imp (ps_par hc hN hi hj hij hx hy ha hw hs) tPar_imp
theorem ds_par3 {i j l : Nat} {x y z : Str} {px py pz pt : Pos} {kt k2 pt2} (hc : X.calm = true) (hN : X.N.Nodup) (hi : X.N[i]? = some x) (hj : X.N[j]? = some y) (hl : X.N[l]? = some z) (hij : i ≠ j) (hil : i ≠ l) (hjl : j ≠ l)
    (hx : X.env.scope.names.lookup x = some .local) (hy : X.env.scope.names.lookup y = some .local) (hz : X.env.scope.names.lookup z = some .local) (ha : PA X [a, b, c] (tDA F Tas))
    (hw : swappedStores [.Tuple [.Name x px, .Name y py, .Name z pz] kt pt] (.Tuple [a, b, c] k2 pt2) X.env = pure (some [x, y, z]) := by rfl)
    (hs : swapsWithSole [.Tuple [.Name x px, .Name y py, .Name z pz] kt pt] (.Tuple [a, b, c] k2 pt2) pos.line X.env = pure false := by rfl) : PS X (.Assign [.Tuple [.Name x px, .Name y py, .Name z pz] kt pt] (.Tuple [a, b, c] k2 pt2) pos) (sD F (dPar3 i j l Tas)) :=
  PS.imp (ps_par3 hc hN hi hj hl hij hil hjl hx hy hz ha hw hs) tPar3_imp
end
theorem kb_of {K : PySem.W.Frag} {x qual : Str} {params : Arguments} {body : List Stmt} {scope : Scope} {kws : List (Str × V)} {f : Addr} {fd : FuncData} {ps ks : List Str} {idx : List Nat} (F : FunD K x qual params body scope [] kws f fd)
    (h : ∀ (kV doc pm : Value) (an : Option Addr) (cdv ct : Value) (ws : List Value), ws.length = ks.length → bindArgs (PySem.W.fnOf x qual params body scope .none kV doc pm an cdv ct) ⟨[], ks.zip ws⟩ = pure (ps.zip (perm idx ws))) : KB fd ps ks idx := by
  obtain ⟨oc, od, dV, kV, doc, pm, an, cdv, ct, osl, rfl, lk, hcd, hD, hK⟩ := F.ex
  rcases hD with ⟨_, rfl⟩ | ⟨e, _⟩
  · exact fun s ws hl => .of_eq (h kV doc pm an cdv ct ws hl)
  · exact absurd rfl e
end DL
set_option Elab.async false
set_option linter.all false
set_option maxRecDepth 100000
namespace DL
open PySem PySem.Spec L2
open PyProof.Rows hiding St

/-! ### a text of nines, and the number that it tells -/
def nine (n : Nat) : Str := ⟨(List.replicate n ((Str.ofString "9").cps)).foldl (· ++ ·) #[]⟩
theorem nine_fold (n : Nat) : ∀ acc : Array Nat, ((List.replicate n ((Str.ofString "9").cps)).foldl (· ++ ·) acc).toList = acc.toList ++ List.replicate n 57 := by
  induction n with
  | zero => intro acc; simp
  | succ n ih =>
    intro acc
    rw [List.replicate_succ, List.foldl_cons, ih]
    have e : (Str.ofString "9").cps = #[57] := by decide +kernel
    rw [e, Array.toList_append, List.append_assoc]
    rfl
theorem nine_cps (n : Nat) : (nine n).cps.toList = List.replicate n 57 := by
  unfold nine
  rw [nine_fold]
  rfl
theorem nine_len (n : Nat) : (nine n).length = n := by
  have : (nine n).cps.size = (nine n).cps.toList.length := Array.length_toList.symm
  show (nine n).cps.size = n
  rw [this, nine_cps, List.length_replicate]
open NumText in
theorem nines_digits (n : Nat) : ∀ (acc : Array Nat) (b : Bool), (List.replicate (n + 1) 57).foldlM (step 10) (acc, b) = some (acc ++ (List.replicate (n + 1) 9).toArray, true) := by
  induction n with
  | zero =>
    intro acc b
    have e : step 10 (acc, b) 57 = some (acc.push 9, true) := rfl
    rw [List.replicate_succ, List.foldlM_cons, e]
    simp
  | succ n ih =>
    intro acc b
    have e : step 10 (acc, b) 57 = some (acc.push 9, true) := rfl
    rw [List.replicate_succ, List.foldlM_cons, e]
    show (List.replicate (n + 1) 57).foldlM (step 10) (acc.push 9, true) = _
    rw [ih]
    congr 2
    rw [List.replicate_succ (n := n + 1)]
    apply Array.ext'
    simp
theorem nines_value (n : Nat) : ∀ acc : Nat, (List.replicate n 9).foldl (fun acc d => acc * 10 + d) acc + 1 = (acc + 1) * 10 ^ n := by
  induction n with
  | zero => intro acc; simp
  | succ n ih =>
    intro acc
    rw [List.replicate_succ, List.foldl_cons, ih, Nat.pow_succ]
    rw [Nat.mul_comm (10 ^ n) 10, ← Nat.mul_assoc]
    congr 1
    omega
open NumText in
theorem nine_int (n : Nat) (h : n + 1 ≤ 4300) : intText? (nine (n + 1)) = some ((10 : Int) ^ (n + 1) - 1) := by
  have hall : ((nine (n + 1)).cps.all (· < 128)) = true := by
    rw [← Array.all_toList, nine_cps, List.all_eq_true]
    intro x hx
    rw [(List.mem_replicate.mp hx).2]
    rfl
  have e1 : numTextOf (nine (n + 1)) = List.replicate (n + 1) 57 := by
    unfold numTextOf
    rw [if_pos hall, nine_cps]
  have e2 : numSeenOf (nine (n + 1)) = List.replicate (n + 1) 57 := by
    unfold numSeenOf
    rw [e1, List.takeWhile_replicate]
    rfl
  have e3 : (List.replicate (n + 1) 57).dropWhile blank = List.replicate (n + 1) 57 := by
    rw [List.replicate_succ, List.dropWhile_cons]
    rfl
  have e4 : sign (List.replicate (n + 1) 57) = (false, List.replicate (n + 1) 57) := by
    rw [List.replicate_succ]
    rfl
  have e5 : core (List.replicate (n + 1) 57) = List.replicate (n + 1) 57 := by
    unfold core
    rw [e3, e4]
    show ((List.replicate (n + 1) 57).reverse.dropWhile blank).reverse = _
    rw [List.reverse_replicate, e3, List.reverse_replicate]
  unfold intText?
  rw [e1, e2, e3, e4, e5]
  rw [if_pos (by simp)]
  have e6 : digits? 10 (List.replicate (n + 1) 57) = some (List.replicate (n + 1) 9).toArray := by
    unfold digits?
    rw [nines_digits]
    simp
  rw [e6]
  show (if (List.replicate (n + 1) 9).toArray.size ≤ 4300 then some (worth false (List.replicate (n + 1) 9).toArray) else none) = _
  rw [if_pos (by simpa using h)]
  congr 1
  unfold worth
  rw [if_neg Bool.false_ne_true]
  have v := nines_value (n + 1) 0
  rw [List.foldl_toArray]
  have : ((List.replicate (n + 1) 9).foldl (fun acc d => acc * 10 + d) 0 : Nat) = 10 ^ (n + 1) - 1 := by omega
  rw [this]
  have p : 1 ≤ 10 ^ (n + 1) := Nat.one_le_pow _ _ (by decide)
  rw [Int.natCast_sub p]
  simp
section
variable {X : Cx} {F : FP} {Ta Tb : TDE} {Tas : TDA} {e a b c : Expr} {es : List Expr} {pos : Pos} {st : Stmt}
def rNine : R2 := fun x y H Q => ∃ n : Int, x = .str "9" ∧ y = .int n ∧ (2 ≤ n ∧ n ≤ 10000) ∧ Q (.str (nine n.toNat)) H
theorem op_nine : OpR X (binaryOp .Mult) rNine := by
  intro pins s σ H x y v u Q I rx ry h
  obtain ⟨n, rfl, rfl, ⟨h1, h2⟩, q⟩ := h
  obtain ⟨t, rfl⟩ := rx
  obtain ⟨t', rfl⟩ := ry
  have l1 : ("9" : Str).length = 1 := by decide +kernel
  have c1 : (n == 1 || ("9" : Str).length == 0) = false := by
    rw [l1]
    have : (n == 1) = false := by rw [beq_eq_false_iff_ne]; omega
    rw [this]; rfl
  refine PySem.P.mul_str ?_ ?_ ?_ ?_
  · rw [decide_eq_false (by omega), decide_eq_false (by omega)]; rfl
  · intro _ _ z
    rw [l1] at z
    have hd : 10000 ≤ (2 ^ 63 - 1) / n := by
      rw [Int.le_ediv_iff_mul_le (by omega)]
      omega
    omega
  · intro _ _
    unfold Builtin.Str.tooLong
    rw [l1, sizeLine_eq]
    exact decide_eq_false (by omega)
  · rw [if_neg (by omega), if_neg (by rw [c1]; exact Bool.false_ne_true)]
    have hl : (nine n.toNat).length ≤ sizeLine := by rw [nine_len, sizeLine_eq]; omega
    exact ⟨hl, ⟨.str (nine n.toNat), H, I.tok _, ⟨_, rfl⟩, q⟩⟩
def gNines : G1 := fun x Q => match x with
  | .int n => (2 ≤ n ∧ n ≤ 640) ∧ Q (.int (10 ^ n.toNat - 1))
  | _ => False
theorem d_nines {k : Nat} {p p1 p2 : Pos} {n : Expr} (hg : Gl X "int") (hm : X.mg "int" = none) (hn : PE X n (tD F Ta)) (he : starEach [.BinOp (.Constant (.str "9") k p1) .Mult n p2] X.env = (false, eval (.BinOp (.Constant (.str "9") k p1) .Mult n p2) X.env) :: starEach [] X.env := by rfl)
    (hpl : (backTo pos (starEach [] X.env)).any (·.1) = false := by rfl) : PE X (.Call (.Name "int" p) [.BinOp (.Constant (.str "9") k p1) .Mult n p2] [] pos) (tD F (dUn gNines Ta)) :=
  PE.imp (pe_callTy call_int_str hg hm (by decide +kernel) (pa_cons (pe_op op_nine pe_str hn) pa_nil he) (by decide) (by decide) he hpl) (by
  rintro σ H Q ⟨N, env, Qd, f, hT, k⟩
  refine ⟨N, env, _, f, hT, fun v H1 d e1 r q => ?_⟩
  cases d <;> first | exact q.elim | skip
  rename_i n
  obtain ⟨⟨h1, h2⟩, q⟩ := q
  refine ⟨n, rfl, r, ⟨h1, by omega⟩, ?_⟩
  obtain ⟨m, hm⟩ : ∃ m, n.toNat = m + 1 := ⟨n.toNat - 1, by omega⟩
  refine ⟨nine n.toNat, _, rfl, ?_, by rw [nine_len]; omega, k _ _ _ e1 rep_int q⟩
  rw [hm]
  exact nine_int m (by omega))
end
end DL
set_option Elab.async false
set_option linter.all false
set_option maxRecDepth 100000
namespace DL
open PySem PySem.Spec L2
open PyProof.Rows hiding St
/-! ### the deck -/
/-- a draw: some number below the given one -/
def tf_draw : TF := fun _ ds Q => match ds with
  | [.deck, .int n] => (0 < n ∧ n < 1000000000) ∧ ∀ r : Int, 0 ≤ r → r < n → Q (.int r)
  | _ => False
theorem draw_reps {K : PySem.W.Frag} {Z : Zn} {B : Addr → Prop} {H : Hp} {ds : List D} {vs : List V} {Qd : D → Prop} (r : Reps K Z B H ds vs) (h : tf_draw (fun _ => False) ds Qd) :
    ∃ a l n, Z.deck = some (a, l) ∧ vs = [.ref a, .int n] ∧ (0 < n ∧ n < 1000000000) ∧ ∀ r : Int, 0 ≤ r → r < n → Qd (.int r) := by
  unfold tf_draw at h
  split at h
  · obtain ⟨v, _, rfl, ⟨a, l, hz, rfl⟩, w, _, rfl, rfl, h4⟩ := r
    cases h4
    exact ⟨a, l, _, hz, rfl, h⟩
  · exact h.elim
theorem kvs_m {l : Addr} {m k : Int} : valV (deckKvs l m k) (.inr ("mixed" : Str)) = some (.int m) := rfl
theorem kvs_l {l : Addr} {m k : Int} : valV (deckKvs l m k) (.inr ("cells" : Str)) = some (.ref l) := rfl
theorem kvs_d {l : Addr} {m k : Int} : valV (deckKvs l m k) (.inr ("draws" : Str)) = some (.int k) := rfl
theorem kvs_put {l : Addr} {m k j : Int} : putK (deckKvs l m k) (.inr ("draws" : Str)) (.int j) = deckKvs l m j := rfl
theorem dg_m {H : Hp} {a l : Addr} {m k : Int} (h : H a = some (.dK (deckKvs l m k))) : DGet H a (.str "mixed") (some (.int m)) := kvs_m (l := l) (m := m) (k := k) ▸ DGet.k (k := .inr "mixed") h
theorem dg_l {H : Hp} {a l : Addr} {m k : Int} (h : H a = some (.dK (deckKvs l m k))) : DGet H a (.str "cells") (some (.ref l)) := kvs_l (l := l) (m := m) (k := k) ▸ DGet.k (k := .inr "cells") h
theorem dg_d {H : Hp} {a l : Addr} {m k : Int} (h : H a = some (.dK (deckKvs l m k))) : DGet H a (.str "draws") (some (.int k)) := kvs_d (l := l) (m := m) (k := k) ▸ DGet.k (k := .inr "draws") h
theorem dp_d {H : Hp} {a l : Addr} {m k j : Int} (h : H a = some (.dK (deckKvs l m k))) : DPut H a (.str "draws") (.int j) (upd H a (.dK (deckKvs l m j))) :=
  kvs_put (l := l) (m := m) (k := k) (j := j) ▸ DPut.k (k := .inr "draws") (v := .int j) h (by rw [sizeLine_eq]; show 3 < _; omega)
/-- the heap behind some steps of a draw -/
structure Dk (a l : Addr) (H H' : Hp) (m k : Int) (xs : List Int) : Prop where
  keep : ∀ p o, p ≠ a → p ≠ l → H p = some o → H' p = some o
  dict : H' a = some (.dK (deckKvs l m k))
  list : H' l = some (.lst (xs.map V.int))
  ne : a ≠ l
  tabs : ∀ P q, LamX.TabS H P q → LamX.TabS H' P q
theorem Dk.ext {a l : Addr} {H H' : Hp} {m k : Int} {xs : List Int} (d : Dk a l H H' m k xs) (h : xs.length ≤ 63) {Z : Zn} (hz : Z.deck = some (a, l)) : Ext Z H H' :=
  ⟨fun p o n _ e => d.keep p o (fun z => n ⟨a, l, hz, .inl z⟩) (fun z => n ⟨a, l, hz, .inr z⟩) e, fun dk => ⟨fun a' l' e => by rw [hz] at e; cases e; exact ⟨xs, m, k, d.dict, d.list, h⟩, fun p hp => d.tabs _ _ (dk.2 p hp)⟩⟩
theorem Dk.new {a l p : Addr} {o : HO} {H H' : Hp} {m k : Int} {xs : List Int} (d : Dk a l H H' m k xs) (hp : H' p = none) : Dk a l H (upd H' p o) m k xs :=
  ⟨fun q u n1 n2 e => by rw [upd_ne (ne_of_none (d.keep q u n1 n2 e) hp)]; exact d.keep q u n1 n2 e, by rw [upd_ne (ne_of_none d.dict hp)]; exact d.dict, by rw [upd_ne (ne_of_none d.list hp)]; exact d.list, d.ne, fun P q t => (d.tabs P q t).ext fun b u e => by rw [upd_ne (ne_of_none e hp)]; exact e⟩
theorem Dk.put {a l : Addr} {H H' : Hp} {m k j : Int} {xs : List Int} (d : Dk a l H H' m k xs) : Dk a l H (upd H' a (.dK (deckKvs l m j))) m j xs :=
  ⟨fun q u n1 n2 e => by rw [upd_ne n1]; exact d.keep q u n1 n2 e, upd_same, by rw [upd_ne d.ne.symm]; exact d.list, d.ne, fun P q t => tab_upd d.dict kp_dk (fun _ h => by cases h) (d.tabs P q t)⟩
theorem Dk.set {a l : Addr} {H H' : Hp} {m k : Int} {xs ys : List Int} (d : Dk a l H H' m k xs) : Dk a l H (upd H' l (.lst (ys.map V.int))) m k ys :=
  ⟨fun q u n1 n2 e => by rw [upd_ne n2]; exact d.keep q u n1 n2 e, by rw [upd_ne d.ne]; exact d.dict, upd_same, d.ne, fun P q t => tab_upd d.list kp_lst (fun _ h => by cases h) (d.tabs P q t)⟩
theorem dp_ints {K : PySem.W.Frag} {H : Hp} : ∀ (xs : List Int), DpAll K H (xs.map V.int) (xs.map PyData.int)
  | [] => .nil
  | x :: xs => .cons (.int x) (dp_ints xs)
theorem shaped_ints (xs : List Int) : SeqAt.shaped (.list (xs.map PyData.int)) = true := by
  have h1 : ∀ xs : List Int, PyData.canLayAll0 (xs.map PyData.int) = true := fun xs => by
    induction xs with
    | nil => rfl
    | cons x xs ih => simpa [PyData.canLayAll0, PyData.canLay0] using ih
  have h2 : ∀ xs : List Int, PyData.depthAll (xs.map PyData.int) ≤ 1 := fun xs => by
    induction xs with
    | nil => simp [PyData.depthAll]
    | cons x xs ih => simp only [List.map_cons, PyData.depthAll, PyData.depth]; omega
  have := h2 xs
  unfold SeqAt.shaped
  rw [Bool.and_eq_true]
  refine ⟨by simpa [PyData.canLay0] using h1 xs, decide_eq_true ?_⟩
  simp only [PyData.depth]
  omega
theorem eqv_ints_nil : ∀ xs : List Int, (!PyData.eqv (.list (xs.map PyData.int)) (.list [])) = !xs.isEmpty
  | [] => rfl
  | x :: xs => rfl
theorem last_of (xs : List Int) : xs = [] ∨ ∃ (ys : List Int) (y : Int), xs = ys ++ [y] := by
  rcases List.eq_nil_or_concat xs with h | ⟨l, b, h⟩
  · exact .inl h
  · exact .inr ⟨l, b, by rw [h, List.concat_eq_append]⟩
end DL
set_option Elab.async false
set_option linter.all false
set_option maxRecDepth 100000
namespace DL
open PySem PySem.Spec L2
open PyProof.Rows hiding St
/-- a new deck, from the script -/
def spDeck (K : PySem.W.Frag) : Sp := fun vs H Q _ => ∃ (s : Addr) (ns : List Int), vs = [.ref s] ∧ SqL K H s (ns.map V.int) ∧ ns.length ≤ 63 ∧
  ∀ (H' : Hp) (a l : Addr) (m : Int) (xs : List Int), (∀ p o, H p = some o → H' p = some o) → H a = none → H l = none → H' a = some (.dK (deckKvs l m 0)) → H' l = some (.lst (xs.map V.int)) → xs.length ≤ 63 → Q (.ref a) H'
theorem merge_deck {l : Addr} {m : Int} : mergeK [] [(.inr ("cells" : Str), .ref l), (.inr ("mixed" : Str), .int m), (.inr ("draws" : Str), .int 0)] = deckKvs l m 0 := rfl
theorem PSs.exF {X : Cx} {sts : List Stmt} {P : FP → Prop} {T : TDS} (h : ∀ F : FP, P F → PSs X sts (sD F T)) : PSs X sts (fun De σ H => ∃ F : FP, P F ∧ sD F T De σ H) :=
  ⟨fun pins s σ H De I ⟨F, e, q⟩ => (h F e).run pins s σ H De I q⟩
/-- the law: a deck is made, the rest is data -/
def spLaw (K : PySem.W.Frag) (n : Nat) (T : TDS) : Sp := fun vs H Q _ => ∃ (s : Addr) (ns : List Int), vs = [.ref s] ∧ SqL K H s (ns.map V.int) ∧ ns.length ≤ 63 ∧ LamX.Tabs (tabsOf K) H ∧
  T (fun _ _ => False) { nx := fun _ => False, rt := fun d => d = .bl true } (.un :: .d .deck :: List.replicate n .un) ∧ ∀ H', Q (.bl true) H'
theorem law_rest {K : PySem.W.Frag} {n : Nat} {T : TDS} {H' : Hp} {Q : VK} {a l : Addr} {m : Int} {xs : List Int} {s0 : V} (h0 : H' a = some (.dK (deckKvs l m 0))) (h1 : H' l = some (.lst (xs.map V.int))) (hx : xs.length ≤ 63) (ht : LamX.Tabs (tabsOf K) H')
    (hT : T (fun _ _ => False) { nx := fun _ => False, rt := fun d => d = .bl true } (.un :: .d .deck :: List.replicate n .un)) (k : ∀ H', Q (.bl true) H') :
    ∃ F : FP, (F.K = K ∧ F.ex = fun _ _ => False) ∧ sD F T { nx := fun _ H' => Q .non H', rt := Q } (some s0 :: some (.ref a) :: List.replicate n none) H' := by
  refine ⟨⟨K, ⟨some (a, l), tabsOf K⟩, fun p => p = a ∨ p = l, H', fun _ _ => False, fun p => p = a ∨ p = l, H'⟩, ⟨rfl, rfl⟩, fun p => p = a ∨ p = l, _, _, ⟨⟨⟨?_, ht⟩, .refl, fun _ h => h, ?_, ?_, fun p h n => (n h).elim, .refl, rfl⟩, by simp, ?_, ?_⟩, hT, ⟨fun _ _ _ _ _ _ z => z.elim, fun v H2 d _ r z => ?_, fun _ _ _ _ _ _ z => z.elim, fun _ _ _ _ _ _ z => z.elim⟩⟩
  · intro a' l' e; cases e; exact ⟨xs, m, 0, h0, h1, hx⟩
  · rintro p ⟨a', l', e, z⟩; cases e; exact z
  · rintro p (rfl | rfl)
    · exact ⟨_, h0, kp_dk⟩
    · exact ⟨_, h1, kp_lst⟩
  · intro i s hs
    match i, hs with
    | 0, hs => cases hs; trivial
    | 1, hs => cases hs; exact ⟨.ref a, rfl, a, l, rfl, rfl⟩
    | i + 2, hs =>
      have : s = .un := by
        have := List.mem_of_getElem? (show (List.replicate n Slot.un)[i]? = some s from hs)
        exact (List.mem_replicate.mp this).2
      subst this
      trivial
  · intro i j p xs ys _ h
    match i, h with
    | 0, h => cases h
    | 1, h => cases h
    | i + 2, h =>
      have := List.mem_of_getElem? (show (List.replicate n Slot.un)[i]? = some (.own xs) from h)
      cases (List.mem_replicate.mp this).2
  · have z : d = .bl true := z
    subst z
    rw [show v = .bl true from r]
    exact k H2
theorem _root_.L2.Same.lay {H H1 : Hp} {q : Addr} {o : HO} (s : Same H H1) (hq : H1 q = none) : Same H (upd H1 q o) := fun b u e => by
  rw [upd_ne (ne_of_none (s b u e) hq)]
  exact s b u e
theorem cut_ints (ns : List Int) (lo hi : Option Int) : ∃ ms : List Int, cutV (ns.map V.int) lo hi = ms.map V.int ∧ ms.length ≤ ns.length := by
  refine ⟨(ns.drop (HT.sIx ns.length 0 lo)).take (HT.sIx ns.length ns.length hi - HT.sIx ns.length 0 lo), ?_, ?_⟩
  · unfold cutV
    rw [List.length_map, ← List.map_drop, ← List.map_take]
  · rw [List.length_take, List.length_drop]
    omega
theorem keepU {H : Hp} {p q : Addr} {o u : HO} (h : H p = some u) (hq : H q = none) : upd H q o p = some u := by
  rw [upd_ne (ne_of_none h hq)]
  exact h
end DL
set_option Elab.async false
set_option linter.all false
set_option maxRecDepth 100000
set_option maxHeartbeats 2000000
namespace DL
open PySem PySem.Spec L2
open PyProof.Rows hiding St
section
variable {P : Program} {w : World} {K : PySem.W.Frag} {mg mb : Str → Option Value} {CX : CXT} {k : Nat} {fa a : Addr} {fd : FuncData} {x : Str} {sp : Sp} {s₁ : Shared} {vs : List Value} {ns : List Int}
/-- the abstract heap at the law's call: the script, if it is no object of the module's own -/
def startH (K : PySem.W.Frag) (a : Addr) (vs : List Value) (ns : List Int) : Hp := fun b => match K.lookup a with
  | some _ => none
  | none => if b = a then some (.frz { cls := .type "list", data := .seq vs.toArray } (.lst (ns.map V.int))) else none
theorem startH_at {b : Addr} {u : HO} (h : startH K a vs ns b = some u) : K.lookup a = none ∧ b = a ∧ u = .frz { cls := .type "list", data := .seq vs.toArray } (.lst (ns.map V.int)) := by
  unfold startH at h
  cases q : K.lookup a with
  | some o => rw [q] at h; cases h
  | none =>
    rw [q] at h
    by_cases hb : b = a
    · rw [if_pos hb] at h
      cases h
      exact ⟨rfl, hb, rfl⟩
    · rw [if_neg hb] at h
      cases h
theorem law_callG (KX : K.In s₁.heap) (hns : s₁.heap.Ns mainGlobals mg) (hb : s₁.heap.Ns builtinsNs mb) (hbb : ∀ x : Str, x ≠ "__name__" → mb x = bootBuiltins x) (hlim : s₁.heap.NoLimit) (hg : s₁.gens = #[])
    (ha : s₁.heap.get? a = some { cls := .type "list", data := .seq vs.toArray }) (hi : IntsAre vs ns) (hl : ns.length ≤ sizeLine) (hr : RoomG k callerA)
    (F : ∀ base : Heap, K.In base → base.Ns mainGlobals mg → FnG P w K mg base CX k fa fd [x] sp) (hbind : ∀ (s : Shared) (u : Value), BindsTo s fd ⟨[u], []⟩ [(x, u)])
    (hsp : ∀ H : Hp, SqL K H a (ns.map V.int) → sp [.ref a] H (fun v _ => v = .bl true) fun _ _ _ => False) (hCX : ∀ H e s', CX [] H s₁ (fun _ _ _ => False) e s' → False) :
    codeAny (model P w) callerA (.call (.ref fa) ⟨[.ref a], []⟩) (fun r s' => r = .ok (.ret (.bool true)) ∧ OldK s₁.heap s'.heap ∧ s'.os = s₁.os ∧ AllBare s'.gens) s₁ := by
  have rel := vals_ints hi
  have hlen : ns.length = vs.length := hi.length.symm
  generalize eH : startH K a vs ns = H
  have at_ : ∀ {b : Addr} {u : HO}, H b = some u → K.lookup a = none ∧ b = a ∧ u = .frz { cls := .type "list", data := .seq vs.toArray } (.lst (ns.map V.int)) := fun {b u} h => startH_at (by rw [eH]; exact h)
  have free : ∀ {b : Addr}, b ≠ a → H b = none := fun {b} h => by
    cases q : H b with
    | none => rfl
    | some u => exact absurd (at_ q).2.1 h
  have held : HOk P w H s₁.heap := fun b u e => by
    obtain ⟨_, rfl, rfl⟩ := at_ e
    exact ⟨ha, by rw [List.length_map]; exact hl, vs, _, rel, ha⟩
  have script : SqL K H a (ns.map V.int) := by
    cases q : K.lookup a with
    | none =>
      refine .inl (.inr ⟨{ cls := .type "list", data := .seq vs.toArray }, ?_⟩)
      rw [← eH]
      unfold startH
      rw [q]
      exact if_pos rfl
    | some o =>
      have e := KX a o q
      rw [ha] at e
      cases e
      exact .inr ⟨_, vs.toArray, _, q, rfl, rfl, rfl, by rw [List.size_toArray, ← hlen]; exact hl, by simpa using rel⟩
  have notDict : ∀ {b : Addr} {o : Obj} {es : Array DictEntry} {ep : Nat}, s₁.heap.get? b = some o → o.data = .dict es ep → H b = none := fun {b o es ep} e d => free fun z => by
    subst z
    rw [ha] at e
    cases e
    cases (show Data.seq vs.toArray _ = Data.dict es ep from d)
  have ns' : ∀ {b : Addr} {m : Str → Option Value}, s₁.heap.Ns b m → (hidT s₁.heap H).Ns b m := fun {b m} ⟨o, es, ep, e, d, r⟩ => ⟨o, es, ep, hidT_get e (notDict e d), d, r⟩
  have inK : K.In (hidT s₁.heap H) := fun b o e => hidT_get (KX b o e) (by
    cases q : H b with
    | none => rfl
    | some u =>
      obtain ⟨h1, h2, _⟩ := at_ q
      rw [h2, h1] at e
      cases e)
  obtain ⟨mc, l1, l2⟩ := hlim
  have e0 : Env0 P w K mg (hidT s₁.heap H) callerA [] s₁ H :=
    ⟨rfl, ⟨inK, ns' hns, ⟨mb, ns' hb, hbb⟩, mc, ns' l1, l2⟩, fun b o e => of_hidT e, Nat.le_of_eq (hidT_size _ _), trivial, (fun b h => by cases h), held, .of_eq hg⟩
  refine codeAny_mono ((F _ inK (ns' hns)).run callerA [] s₁ H ⟨[.ref a], []⟩ [.ref a] [.ref a] _ _ hr e0 (hbind s₁ (.ref a)) (.cons rfl .nil) (hsp H script)) ?_
  rintro (e | fl) s' h
  · exact (hCX H e s' h).elim
  cases fl with
  | next => cases h
  | brk => cases h
  | cont => cases h
  | ret u =>
    obtain ⟨v, H', os, bare, un, hok', r', q⟩ := h
    have q' : v = .bl true := q
    subst q'
    obtain rfl : u = Value.bool true := r'
    refine ⟨rfl, OldK.of_keep fun b o e => ?_, os, bare⟩
    cases q : H b with
    | none => exact un.keep b o e q (by intro z; cases z) (by intro z; cases z)
    | some u =>
      obtain ⟨_, rfl, rfl⟩ := at_ q
      obtain ⟨e2, _⟩ := hok' b _ (un.frzs b _ _ q)
      rw [ha] at e
      cases e
      exact e2
end
theorem walk_ofG {l : PySem.W.OpenLaw} {n k : Nat} {q : Program} {loose : List Str} {XP : (Str → Option Value) → Heap → Prop} {YP : World → Heap → Prop} {d : DefRec} {x : Str}
    (hn : l.most = some n) (hn2 : n ≤ sizeLine) (hdf : d.params.defaults = []) (hr : RoomG k callerA)
    (F : ∀ (w : World) (mg : Str → Option Value) (fa : Addr) (h : Heap), YP w h → h.Ns mainGlobals mg → mg d.name = some (.ref fa) →
      ∃ (K : PySem.W.Frag) (fd : FuncData) (sp : Sp), K.In h ∧ (∀ (s : Shared) (u : Value), BindsTo s fd ⟨[u], []⟩ [(x, u)]) ∧
        (∀ (H : Hp) (a : Addr) (ns : List Int), ns.length ≤ n → SqL K H a (ns.map V.int) → sp [.ref a] H (fun v _ => v = .bl true) fun _ _ _ => False) ∧
        ∀ base : Heap, K.In base → base.Ns mainGlobals mg → FnG l.prog w K mg base CX0 k fa fd [x] sp) :
    PySem.W.WalkO q loose XP YP l.row.toRowW d [] (fun f vs => PySem.call f vs) :=
  Att.attach_call hn hdf fun w s₀ s₁ mg mb fa o pm cd doc a vs ns G Y ho hd hcd hmg hobj hints hlen hg =>
    let ⟨_, _, _, KX, hb, hsp, hF⟩ := F w mg fa _ Y G.T.g hmg
    law_callG KX G.T.g G.T.b G.T.builtins G.T.nolimit hg hobj hints (Nat.le_trans hlen hn2) hr hF hb (fun H hS => hsp H a ns hlen hS) fun _ _ _ z => z
/-! ### the head: facts, and some more -/
def obsE (n : Nat) (fa : List He.Fa) (fn : List He.DefD) (ex : PySem.W.Frag → Bool) (g : Addr → Option Obj) : He.AlD × Bool := (He.obsD fa fn (He.frG g (He.asD g n ++ [cStatics])), ex (He.frG g (He.asD g n ++ [cStatics])))
def hookE (n : Nat) (fa : List He.Fa) (fn : List He.DefD) (ex : PySem.W.Frag → Bool) : PySem.W.Hook where
  α := He.AlD × Bool
  obs := fun s => obsE n fa fn ex s.heap.get?
  val := fun _ => (He.valD fn, true)
  says := fun _ h => ∃ K : PySem.W.Frag, K.In h ∧ He.SaysD fa fn K ∧ ex K = true
  of := fun _ _ e => ⟨_, He.frG_in, congrArg (fun z : He.AlD × Bool => z.1) e, congrArg (fun z : He.AlD × Bool => z.2) e⟩
  keeps := fun _ _ _ ⟨K, hK, c⟩ k => ⟨K, PySem.W.Frag.In.keeps hK k, c⟩
theorem obsE_eq {n : Nat} {fa : List He.Fa} {fn : List He.DefD} {ex : PySem.W.Frag → Bool} {g : Addr → Option Obj} {s : Shared} (h : ∀ a, g a = s.heap.get? a) : obsE n fa fn ex g = (hookE n fa fn ex).obs s := by
  have e : g = s.heap.get? := funext h
  rw [e]
  rfl
def bltB (K : PySem.W.Frag) (x : Str) (b : String) : Bool := decide (PySem.W.nsIn K mainGlobals x = some (some (.builtin b)))
theorem blt_ok {K : PySem.W.Frag} {h : Heap} {mg : Str → Option Value} (X : K.In h) (G : h.Ns mainGlobals mg) {x : Str} {b : String} (c : bltB K x b = true) : mg x = some (.builtin b) := PySem.W.mg_of X G (of_decide_eq_true c)
end DL
set_option Elab.async false
set_option linter.all false
set_option maxRecDepth 100000
set_option maxHeartbeats 2000000
/-! exceptions over data: raise, calls that raise, try -/
namespace DL
open PySem PySem.Spec L2
open PyProof.Rows hiding St
/-- what the reading wishes of exceptions is what is wished below -/
def WOk (F : FP) (W : WX) : Prop := ∀ N σ H env x c od, FOk F N σ H env → XRep F.K F.Z N H x c od → F.ex x env → W c od σ H
theorem wok_none {F : FP} (h : F.ex = fun _ _ => False) {W : WX} : WOk F W := fun _ _ _ _ _ _ _ _ _ z => by
  rw [h] at z
  exact z.elim
theorem XRep.less {K : PySem.W.Frag} {Z : Zn} {N N' : Addr → Prop} {H : Hp} {x : DX} {c : Value} {od : Option Addr} (hn : ∀ p, N' p → N p) (h : XRep K Z N H x c od) : XRep K Z N' H x c od := by
  obtain ⟨h1, h2 | ⟨d, vs, e, n, h3, h4⟩⟩ := h
  · exact ⟨h1, .inl h2⟩
  · exact ⟨h1, .inr ⟨d, vs, e, fun z => n (hn d z), h3, h4.less hn⟩⟩
section
variable {P : Program} {w : World} {K : PySem.W.Frag} {mg : Str → Option Value} {base : Heap} {k : Nat} {f : Addr} {fd : FuncData} {N ps : List Str}
/-- a def that may let exceptions out -/
theorem fng_dataX {x qual : Str} {params : Arguments} {body : List Stmt} {scope : Scope} {dvs : List V} {kws : List (Str × V)} {T : TDS} (Fd : FunD K x qual params body scope dvs kws f fd) (S : FnScope N ps scope)
    (hb : ∀ (cdv : Value) (A : Around) (outer : List Env) (s : Shared) (H : Hp) (E : XK) (F : FP), F.K = K → WOk F (fun c od _ H' => E c od H') → RoomG k (A.deeper (envOfC qual scope s.heap.objs.size f cdv)) →
      PSs (cxOf (CX P w) P w K mg base N qual scope f cdv A outer s H E) body (sD F T)) : FnG P w K mg base (CX P w) (k + 1) f fd ps (spD K ps.length fun ξ ds Q => tfOf N.length T ξ ds Q) := by
  refine fng_of Fd S ?_ ?_
  · rintro vs H Q E ⟨Z, B, ds, Qd, Ed, b, r, hl, _⟩
    rw [← r.length, hl]
  · rintro cdv A outer s H vs Q E room ⟨Z, B, ds, Qd, Ed, b, r, hl, hT, hq, he⟩
    refine ⟨_, hb cdv A outer s H E ⟨K, Z, B, H, fun x _ => Ed x, B, H⟩ rfl (fun N' σ H' env x c od f' xr hx => he x c od H' f'.n.ext (xr.less f'.n.sub) hx) room, ?_⟩
    exact ⟨B, _, _, start_ok b r, hT, ⟨fun N' σ' H' env' f' _ q => hq _ _ _ f'.n.ext rep_non q, fun v H' d e r' q => hq v H' d e r' q, fun _ _ _ _ _ _ q => q.elim, fun _ _ _ _ _ _ q => q.elim⟩⟩
end
section
variable {X : Cx} {F : FP} {W : WX} {k n : Nat} {f : Addr} {fd : FuncData} {ps ks : List Str} {x : Str} {p pos : Pos} {e : Expr} {es : List Expr} {kws : List Keyword} {Tas Tks : TDA} {T : TF} {sp : Sp}
/-! ### calls that may raise -/
theorem run_gs {CX : CXT} {E : L2.St → XK} {pins : List (Addr × Obj)} {σ : L2.St} {H : Hp} {s : Shared} {Q : VK} {us : List Value} {vs : List V} {args : Args} (G : FnG X.prog X.w X.K X.mg X.base CX k f fd ps sp) (hr : RoomG k X.A) (hb : BindsTo s fd args (ps.zip us)) (hx : PassesAt CX X σ (E σ))
    (I : Inv X pins σ H s) (r : Vals vs us) (h : sp vs H Q (E σ)) : codeAny (model X.prog X.w) X.A (.call (.ref f) args) (fun r s' => match r with | .ok (.ret u) => EP X pins σ Q u s' | .ok _ => False | .error e => X.xe e s') s := by
  refine codeAny_mono (G.run X.A X.stack s H args us vs Q (E σ) hr I.env0 hb r h) fun r s' hq => ?_
  cases r with
  | error e => exact hx pins H s e s' I hq
  | ok fl =>
    cases fl with
    | ret u => exact I.after hq
    | next => exact hq
    | brk => exact hq
    | cont => exact hq
theorem pe_callGS {CX : CXT} {E : L2.St → XK} {t : TA} (G : FnG X.prog X.w X.K X.mg X.base CX k f fd ps sp) (hr : RoomG k X.A) (hg : Gl X x) (hm : X.mg x = some (.ref f)) (hk : PySem.W.keepIn X.K (.ref f) = true) (hb : Binds X.K fd ps []) (hx : ∀ σ, PassesAt CX X σ (E σ))
    (ha : PA X (e :: es) t) (hdb : (x == ("__debug__" : Str)) = false := by decide) (he : starEach (e :: es) X.env = (false, eval e X.env) :: starEach es X.env := by rfl) (hpl : (backTo pos (starEach es X.env)).any (·.1) = false := by rfl) :
    PE X (.Call (.Name x p) (e :: es) [] pos) (tCallS sp E t) := ⟨fun pins s σ H Q I h =>
  wpAny_Call_Name_kw (ld_glob I hg hm (PySem.W.callWith_K (h₀ := X.base) I.ok.mod.kin hk (thn (ha.run pos pins s σ H _ I h) fun us s1 ⟨vs, H1, I1, r, q⟩ => ⟨I1.kIn, by
    have hl : us.length = ps.length := r.length.symm.trans (G.len _ _ _ _ q)
    have b := hb s1 us I1.kIn (by simpa using hl)
    rw [List.append_nil] at b
    refine wpAny_call (codeAny_mono (run_gs G hr b (hx σ) I1 r q) fun r s' hq => ?_)
    cases r with
    | error e => exact hq
    | ok fl => cases fl <;> exact hq⟩) he hpl) hdb)⟩
def dCallX (n : Nat) (T : TF) (Ta : TDA) : TDE := fun ξ env Q => Ta ξ env fun ds => ds.length = n ∧ T (fun x => ξ x env) ds Q
theorem tCallX_imp (hK : F.K = X.K) (wo : WOk F W) : ∀ σ H Q, tD F (dCallX n T Tas) σ H Q → tCallS (spD X.K n T) (WE W) (tDA F Tas) σ H Q := by
  rintro σ H Q ⟨N, env, Qd, f, hT, k⟩
  refine ⟨N, env, _, f, hT, fun vs H1 ds e1 r1 q1 => ?_⟩
  have f1 := f.ext' e1
  refine ⟨F.Z, N, ds, Qd, _, by rw [← hK]; exact f1.n.bok, by rw [← hK]; exact r1, q1.1, q1.2, fun v H2 d e2 r2 q2 => k v H2 d (e1.trans e2) (by rw [hK]; exact r2) q2, fun x c od H2 e2 xr hx => ?_⟩
  exact wo N σ H2 env x c od (f1.ext' e2) (by rw [hK]; exact xr) hx
theorem d_callX (G : FnG X.prog X.w X.K X.mg X.base (CX X.prog X.w) k f fd ps (spD X.K n T)) (tk : Takes X W) (wo : WOk F W) (hK : F.K = X.K) (hr : RoomG k X.A) (hg : Gl X x) (hm : X.mg x = some (.ref f)) (hk : PySem.W.keepIn X.K (.ref f) = true) (hb : Binds X.K fd ps [])
    (ha : PA X (e :: es) (tDA F Tas)) (hdb : (x == ("__debug__" : Str)) = false := by decide) (he : starEach (e :: es) X.env = (false, eval e X.env) :: starEach es X.env := by rfl) (hpl : (backTo pos (starEach es X.env)).any (·.1) = false := by rfl) :
    PE X (.Call (.Name x p) (e :: es) [] pos) (tD F (dCallX n T Tas)) :=
  PE.imp (pe_callGS G hr hg hm hk hb (fun σ => passAt tk σ) ha hdb he hpl) (tCallX_imp hK wo)
def dCallKX (m n : Nat) (idx : List Nat) (T : TF) (Tk : TDA) : TDE := fun ξ env Q => Tk ξ env fun ds => (ds.length = m ∧ (perm idx ds).length = n) ∧ T (fun x => ξ x env) (perm idx ds) Q
theorem d_callKX {idx : List Nat} {m : Nat} (G : FnG X.prog X.w X.K X.mg X.base (CX X.prog X.w) k f fd ps (spD X.K n T)) (tk : Takes X W) (wo : WOk F W) (hK : F.K = X.K) (hr : RoomG k X.A) (hg : Gl X x) (hm : X.mg x = some (.ref f)) (hk : PySem.W.keepIn X.K (.ref f) = true) (hb : KB fd ps ks idx)
    (hkw : PK X kws (tDA F Tks)) (hall : (backToKw pos (keywordEach kws X.env)).all (·.1.isSome) = true := by rfl) (hks : (backToKw pos (keywordEach kws X.env)).filterMap (·.1) = ks := by rfl) (hdb : (x == ("__debug__" : Str)) = false := by decide)
    (hpl : ((backTo pos (starEach [] X.env)).any (·.1) || (backToKw pos (keywordEach kws X.env)).any (·.1.isNone)) = false := by rfl) (hml : ks.length = m := by rfl) : PE X (.Call (.Name x p) [] kws pos) (tD F (dCallKX m n idx T Tks)) := ⟨fun pins s σ H Q I h => by
  subst hml
  obtain ⟨N, env, Qd, ff, hT, kk⟩ := h
  refine wpAny_Call_Name_kw (ld_glob I hg hm (PySem.W.callWith_KW0 (h₀ := X.base) I.ok.mod.kin hk hall ?_ hpl) hdb)
  refine thn (hkw.run pos pins s σ H (fun zs H2 => ∃ ds, Ext F.Z H H2 ∧ Reps F.K F.Z N H2 ds zs ∧ (ds.length = ks.length ∧ (perm idx ds).length = n) ∧ T (fun x => F.ex x env) (perm idx ds) Qd) I ⟨N, env, _, ff, hT, fun vs H1 ds e1 r1 q1 => ⟨ds, e1, r1, q1.1, q1.2⟩⟩) ?_
  rintro ws s2 ⟨zs, H2, I2, rz, ds, e1, r1, l2, q2⟩
  rw [hks]
  have f1 := ff.ext' e1
  have hl : zs.length = ks.length := r1.length.symm.trans l2.1
  refine ⟨I2.kIn, wpAny_call (codeAny_mono (run_gs (E := WE W) (Q := Q) G hr (hb s2 ws (rz.length.symm.trans hl)) (passAt tk σ) I2 (perm_vals rz idx) ?_) fun r s' hq => ?_)⟩
  · refine ⟨F.Z, N, perm idx ds, Qd, _, by rw [← hK]; exact f1.n.bok, by rw [← hK]; exact perm_reps r1 idx, l2.2, q2, fun v H3 d e2 r2 q => kk v H3 d (e1.trans e2) (by rw [hK]; exact r2) q, fun x c od H3 e2 xr hx => ?_⟩
    exact wo N σ H3 env x c od (f1.ext' e2) (by rw [hK]; exact xr) hx
  · cases r with
    | error e => exact hq
    | ok fl => cases fl <;> exact hq⟩
/-! ### raise X() -/
theorem pmk_bare {C : Addr} {bmB : List Value} {B newId initId : String} (Fb : ExcBaseFacts B newId initId bmB) (q : PySem.W.excIn X.K C bmB newId = true) (gC : X.mg x = some (.ref C)) (kC : PySem.W.keepIn X.K (.ref C) = true) (r : Raises X (.ref C)) (hg : Gl X x)
    (hdb : (x == ("__debug__" : Str)) = false := by decide) : PMk X (.Call (.Name x p) [] [] pos) (fun _ H Q => Q (.ref C) none H) := by
  intro pins s σ H Q I h
  refine wpAny_Call_Name_kw (ld_glob I hg gC ?_ hdb)
  refine PySem.W.callWith_K0 I.kIn kC ?_
  show wpAny _ _ (call (.ref C) []) _ _ _
  obtain ⟨bm, N, nm, qn, bs, hdct, sn, sub, ab, col, dd, k0, k1, k2, k3, k5, mN, hC, hN, hni, T⟩ := exc_obj I.kIn q
  exact wpAny_call_exc_subT Fb T hC hN hni (fun h' e hm => mk_of I hm r h (I.hok.gone hm.new)) (Nat.zero_le _)
def dRaise0 (n : Str) : TDS := fun ξ _ env => ξ ⟨n, []⟩ env
theorem ds_raise0 {C : Addr} {bmB : List Value} {B newId initId : String} {pos' : Pos} (hc : X.calm = true) (tk : Takes X W) (wo : WOk F W) (hK : F.K = X.K) (Fb : ExcBaseFacts B newId initId bmB) (q : PySem.W.excIn X.K C bmB newId = true) (gC : X.mg x = some (.ref C)) (cC : clsAt X.K x = .ref C)
    (kC : PySem.W.keepIn X.K (.ref C) = true) (r : Raises X (.ref C)) (hg : Gl X x) (hdb : (x == ("__debug__" : Str)) = false := by decide) : PS X (.Raise (some (.Call (.Name x p) [] [] pos)) none pos') (sD F (dRaise0 x)) :=
  PS.imp (ps_raise hc tk (pmk_bare Fb q gC kC r hg hdb)) (by
  rintro De σ H ⟨N, env, Dd, f, hT, ok⟩
  exact wo N σ H env ⟨x, []⟩ _ none f ⟨by rw [hK]; exact cC.symm, .inl ⟨rfl, rfl⟩⟩ hT)
end
/-! ### try, one clause without a name -/
theorem FOk.rebase {F : FP} {N : Addr → Prop} {σ : L2.St} {H : Hp} {env : SE} (f : FOk F N σ H env) (ex : XW) : FOk { F with ex := ex, N1 := N, H1 := H } N σ H env := ⟨⟨f.n.deck, f.n.ext, f.n.sub, f.n.zin, f.n.all, f.n.new, .refl, f.n.tb⟩, f.len, fun i s h => by
  have q := f.slot i s h
  cases s <;> exact q, f.apart⟩
theorem FOk.back {F : FP} {N N0 : Addr → Prop} {σ : L2.St} {H H0 : Hp} {env : SE} {ex : XW} (f : FOk { F with ex := ex, N1 := N0, H1 := H0 } N σ H env) (g : Evo F.N1 F.H1 N0 H0) : FOk F N σ H env := ⟨⟨f.n.deck, f.n.ext, f.n.sub, f.n.zin, f.n.all, f.n.new, g.trans f.n.gr, f.n.tb⟩, f.len, fun i s h => by
  have q := f.slot i s h
  cases s <;> exact q, f.apart⟩
def dTry1 (m : Str → Option Bool) (body h : TDS) : TDS := fun ξ De env => body (fun x env' => match m x.cls with
  | some true => h (fun _ _ => False) De env'
  | some false => ξ x env'
  | none => False) De env
theorem PSs.exP {X : Cx} {sts : List Stmt} {α : Sort _} {t : α → TS} (h : ∀ i, PSs X sts (t i)) : PSs X sts (fun De σ H => ∃ i, t i De σ H) := ⟨fun pins s σ H De I ⟨i, q⟩ => (h i).run pins s σ H De I q⟩
theorem PSs.andP {X : Cx} {sts : List Stmt} {p : Prop} {t : TS} (h : p → PSs X sts t) : PSs X sts (fun De σ H => p ∧ t De σ H) := ⟨fun pins s σ H De I ⟨i, q⟩ => (h i).run pins s σ H De I q⟩
theorem ds_try1 {X : Cx} {F : FP} {W : WX} {x : Str} {c : Value} {m : Str → Option Bool} {body suite : List Stmt} {b₀ : Stmt} {np pos pos' : Pos} {Tb Th : TDS} (hK : F.K = X.K) (hs : X.stack = X.env :: X.outer) (hf : X.env.frame = some X.env.locals) (hc : Names X x c) (tk : Takes X W) (wo : WOk F W)
    (hm : ∀ n b, m n = some b → PySem.W.exmOne X.K (clsAt X.K n) c = some b)
    (hb : ∀ (W : WX) (pn : List (Addr × Obj)) (xe : Value → Shared → Prop) (F' : FP), Takes (X.tr pn xe) W → PassesOwn (model X.prog X.w) X.A X.env xe → F'.K = F.K → WOk F' W → PSs (X.tr pn xe) body (sD F' Tb))
    (hsu : ∀ (a : Addr) (pn : List (Addr × Obj)), PSs (X.suite a pn) (b₀ :: suite) (sD F.calm Th)) :
    PS X (.Try body [.ExceptHandler (some (.Name x np)) none (b₀ :: suite) pos'] [] [] pos) (sD F (dTry1 m Tb Th)) := by
  refine PS.imp (ps_try_only (tb := fun W De σ H => ∃ F' : FP, (F'.K = F.K ∧ WOk F' W) ∧ sD F' Tb De σ H) (ts := fun _ _ _ => sD F.calm Th) hs hf hc tk (fun W pn xe t1 p1 => PSs.exP fun F' => PSs.andP fun h => hb W pn xe F' t1 p1 h.1 h.2) fun a oe cls d pn _ _ => hsu a _) ?_
  rintro De σ H ⟨N, env, Dd, f, hT, ok⟩
  have g := f.n.gr
  refine ⟨{ F with ex := _, N1 := N, H1 := H }, ⟨rfl, ?_⟩, N, env, Dd, f.rebase _, hT, ⟨fun N' σ' H' env' f' ev q => ok.nx N' σ' H' env' (f'.back g) ev q, ok.rt, fun N' σ' H' env' f' ev q => ok.bk N' σ' H' env' (f'.back g) ev q, fun N' σ' H' env' f' ev q => ok.ct N' σ' H' env' (f'.back g) ev q⟩⟩
  intro N' σ' H' env' y c' od f' xr hx
  have e := xr.1
  have fb := f'.back g
  have hx : (match m y.cls with
    | some true => Th (fun _ _ => False) Dd env'
    | some false => F.ex y env'
    | none => False) := hx
  cases q : m y.cls with
  | none => rw [q] at hx; exact hx.elim
  | some b =>
    rw [q] at hx
    have em := hm _ _ q
    refine ⟨b, by rw [e]; rw [← hK] at em ⊢; exact em, fun hb1 a _ => ?_, fun hb0 => ?_⟩
    · subst hb1
      have ok' := ok.of f'.n.gr
      exact ⟨N', env', Dd, fb.wish _, hx, ⟨fun N2 σ2 H2 env2 f2 ev q => ok'.nx N2 σ2 H2 env2 f2.unwish ev q, ok'.rt, fun N2 σ2 H2 env2 f2 ev q => ok'.bk N2 σ2 H2 env2 f2.unwish ev q, fun N2 σ2 H2 env2 f2 ev q => ok'.ct N2 σ2 H2 env2 f2.unwish ev q⟩⟩
    · subst hb0
      exact wo N' σ' H' env' y c' od fb xr hx
end DL
set_option Elab.async false
set_option linter.all false
set_option maxRecDepth 100000
set_option maxHeartbeats 2000000
/-! more operators over data -/
namespace DL
open PySem PySem.Spec L2
open PyProof.Rows hiding St
/-! ### gcd of three -/
theorem args_gcd3 (a b c : Value) : argsOk "math.gcd" ⟨[a, b, c], []⟩ := by unfold argsOk; kernel_rfl
theorem gives_gcd3 (a : Int) (t : Tok) (b : Int) (u : Tok) (c : Int) (v : Tok) : Gives (Builtin.«math.gcd» ⟨[.int a t, .int b u, .int c v], []⟩) (.int (((((Nat.gcd 0 a.natAbs).gcd b.natAbs).gcd c.natAbs : Nat) : Int))) :=
  .of_wp fun M A E s Q h => by
    obtain ⟨hp, g, d, tk, os⟩ := s
    wp_walk
    exact ⟨_, rfl, h⟩
def rGcd3 : List V → Hp → VK → Prop := fun vs H Q => ∃ a b c : Int, vs = [.int a, .int b, .int c] ∧ Q (.int (((Nat.gcd a.natAbs b.natAbs).gcd c.natAbs : Nat) : Int)) H
section
variable {X : Cx} {F : FP} {a b c e : Expr} {es : List Expr} {pos : Pos} {Ta Tb Tc : TDE} {Tas : TDA}
theorem cr_gcd3 : CallR X (.builtin "math.gcd") rGcd3 := by
  intro pins s σ H vs us Q I r h
  obtain ⟨a, b, c, rfl, q⟩ := h
  cases r with
  | cons r1 r =>
    obtain ⟨t, rfl⟩ := r1
    obtain ⟨u, v, rfl⟩ := Vals.int2 r
    have g := gives_gcd3 a t b u c v
    rw [Nat.gcd_zero_left] at g
    exact call_function_meets PySem.W.MGF.kind_gcd PySem.W.MGF.plain_gcd PySem.W.MGF.entry_gcd (args_gcd3 _ _ _) g.meets ⟨.int _, H, I.tok _, ⟨_, rfl⟩, q⟩
def gGcd3 : GA := fun xs Q => match xs with
  | [.int a, .int b, .int c] => Q (.int (((Nat.gcd a.natAbs b.natAbs).gcd c.natAbs : Nat) : Int))
  | _ => False
theorem cd_gcd3 : CallD F rGcd3 gGcd3 := ⟨by
  intro N H vs ds Qd Q n r h k
  unfold gGcd3 at h
  split at h
  · obtain ⟨v1, r1, rfl, h1, v2, r2, rfl, h2, v3, r3, rfl, h3, rfl⟩ := r
    cases (show v1 = .int _ from h1)
    cases (show v2 = .int _ from h2)
    cases (show v3 = .int _ from h3)
    exact ⟨_, _, _, rfl, k _ _ _ Ext.refl rep_int h⟩
  · exact h.elim⟩
/-! ### + and * of ints, lists, tuples -/
theorem opd_or {r r' : R2} {g g' g2 : G2} (h : OpD F r g) (h' : OpD F r' g') (e : ∀ x y Q, g2 x y Q → g x y Q ∨ g' x y Q) : OpD F (fun x y H Q => r x y H Q ∨ r' x y H Q) g2 := ⟨fun N H x y dx dy Qd Q n rx ry hg k => (e dx dy Qd hg).elim (fun q => .inl (h.ok N H x y dx dy Qd Q n rx ry q k)) (fun q => .inr (h'.ok N H x y dx dy Qd Q n rx ry q k))⟩
def gCatL : G2 := fun x y Q => match x, y with
  | .lst xs, .lst ys => xs.length + ys.length ≤ sizeLine ∧ Q (.lst (xs ++ ys))
  | _, _ => False
theorem opd_catL : OpD F rCat gCatL := ⟨by
  intro N H x y dx dy Qd Q n rx ry h k
  unfold gCatL at h
  split at h
  · obtain ⟨l, vs, rfl, nl, hl, rl⟩ := rx
    obtain ⟨b, ws, rfl, nb, hb, rb⟩ := ry
    exact ⟨l, b, vs, ws, rfl, rfl, hl, hb, by rw [← rl.length, ← rb.length]; exact h.1, fun p hp => k _ _ _ (n.lay hp) (rep_newL n hp (rl.append rb)) h.2⟩
  · exact h.elim⟩
def gCatT : G2 := fun x y Q => match x, y with
  | .tup xs, .tup ys => xs.length + ys.length ≤ sizeLine ∧ Q (.tup (xs ++ ys))
  | _, _ => False
theorem opd_catT : OpD F (rCatA F.K) gCatT := ⟨by
  intro N H x y dx dy Qd Q n rx ry h k
  unfold gCatT at h
  split at h
  · rename_i xs ys
    have rx0 := rx
    have ry0 := ry
    obtain ⟨l, vs, rfl, hl, rl⟩ := rx
    obtain ⟨b, ws, rfl, hb, rb⟩ := ry
    refine ⟨l, b, vs, ws, rfl, rfl, sqt_of hl, sqt_of hb, by rw [← rl.length, ← rb.length]; exact h.1, fun e => ?_, fun e1 e2 => ?_, fun _ _ p hp => k _ _ _ (n.lay hp) (rep_newT n hp (rl.append rb)) h.2⟩
    · have : xs = [] := List.eq_nil_of_length_eq_zero (by rw [rl.length, e]; rfl)
      subst this
      exact k _ _ _ Ext.refl ry0 h.2
    · have : ys = [] := List.eq_nil_of_length_eq_zero (by rw [rb.length, e2]; rfl)
      subst this
      refine k _ _ _ Ext.refl rx0 ?_
      have z := h.2
      rw [List.append_nil] at z
      exact z
  · exact h.elim⟩
def gAddA : G2 := fun x y Q => match x, y with
  | .int i, .int j => Q (.int (i + j))
  | .lst xs, .lst ys => xs.length + ys.length ≤ sizeLine ∧ Q (.lst (xs ++ ys))
  | .tup xs, .tup ys => xs.length + ys.length ≤ sizeLine ∧ Q (.tup (xs ++ ys))
  | _, _ => False
theorem opd_addA : OpD F (fun x y H Q => rI0 (fun i j => .int (i + j)) x y H Q ∨ (rCat x y H Q ∨ rCatA F.K x y H Q)) gAddA :=
  opd_or (g := gAdd) (g' := fun x y Q => gCatL x y Q ∨ gCatT x y Q) (opd_I0 fun _ _ _ _ => rfl) (opd_or opd_catL opd_catT fun _ _ _ h => h) (by
    intro x y Q h
    unfold gAddA at h
    split at h
    · exact .inl h
    · exact .inr (.inl h)
    · exact .inr (.inr h)
    · exact h.elim)
theorem d_addA (hK : F.K = X.K) (ha : PE X a (tD F Ta)) (hb : PE X b (tD F Tb)) : PE X (.BinOp a .Add b pos) (tD F (dBin gAddA Ta Tb)) := by
  have o := opd_addA (F := F)
  rw [hK] at o
  exact d_op (op_add.or (op_cat.or op_catA)) o ha hb
def gRepL : G2 := fun x y Q => match x, y with
  | .lst xs, .int k => (-(2 ^ 63) ≤ k ∧ k < 2 ^ 63 ∧ xs.length * k.toNat ≤ sizeLine) ∧ Q (.lst (List.replicate k.toNat xs).flatten)
  | _, _ => False
theorem reps_flat {K : PySem.W.Frag} {Z : Zn} {N : Addr → Prop} {H : Hp} {xs : List D} {vs : List V} (r : Reps K Z N H xs vs) : ∀ n, Reps K Z N H (List.replicate n xs).flatten (List.replicate n vs).flatten
  | 0 => rfl
  | n + 1 => by
    rw [List.replicate_succ, List.replicate_succ, List.flatten_cons, List.flatten_cons]
    exact r.append (reps_flat r n)
theorem opd_repL : OpD F rRep gRepL := ⟨by
  intro N H x y dx dy Qd Q n rx ry h k
  unfold gRepL at h
  split at h
  · obtain ⟨l, vs, rfl, nl, hl, rl⟩ := rx
    cases (show y = .int _ from ry)
    exact ⟨l, _, vs, rfl, rfl, hl, h.1.1, h.1.2.1, by rw [← rl.length]; exact h.1.2.2, fun p hp => k _ _ _ (n.lay hp) (rep_newL n hp (reps_flat rl _)) h.2⟩
  · exact h.elim⟩
def gMulA : G2 := fun x y Q => match x, y with
  | .int i, .int j => CMulW i j ∧ Q (.int (i * j))
  | .lst xs, .int k => (-(2 ^ 63) ≤ k ∧ k < 2 ^ 63 ∧ xs.length * k.toNat ≤ sizeLine) ∧ Q (.lst (List.replicate k.toNat xs).flatten)
  | _, _ => False
theorem opd_mulA : OpD F (fun x y H Q => rI CMulW (fun i j => .int (i * j)) x y H Q ∨ rRep x y H Q) gMulA :=
  opd_or (g := gMul) (opd_I fun _ _ _ _ => rfl) opd_repL (by
    intro x y Q h
    unfold gMulA at h
    split at h
    · exact .inl h
    · exact .inr h
    · exact h.elim)
theorem d_mulA (ha : PE X a (tD F Ta)) (hb : PE X b (tD F Tb)) : PE X (.BinOp a .Mult b pos) (tD F (dBin gMulA Ta Tb)) := d_op (op_mulW.or op_rep) opd_mulA ha hb
/-! ### // of great ints, by any divisor but 0 -/
def CDivB (i j : Int) : Prop := j ≠ 0 ∧ i.natAbs.log2 < 13000
theorem near_div {i j : Int} (h : i.natAbs.log2 < 13000) : Builtin.divisionGoesByPylong i j = false := by
  unfold Builtin.divisionGoesByPylong
  have a : (if i == 0 then 0 else i.natAbs.log2 / 30 + 1) ≤ 434 := by split <;> omega
  simp only [Bool.and_eq_false_iff, decide_eq_false_iff_not]
  omega
theorem op_fdivB : OpR X (binaryOp .FloorDiv) (rI CDivB fun i j => .int (i.fdiv j)) := opI fun i j _ _ _ _ _ hc q => floordiv_int hc.1 q (.inl (near_div hc.2))
abbrev gDivB : G2 := gI CDivB fun i j => .int (i.fdiv j)
theorem d_divB (ha : PE X a (tD F Ta)) (hb : PE X b (tD F Tb)) : PE X (.BinOp a .FloorDiv b pos) (tD F (dBin gDivB Ta Tb)) := d_op op_fdivB (opd_I fun _ _ _ _ => rfl) ha hb
end
end DL
set_option Elab.async false
set_option linter.all false
set_option maxRecDepth 100000
set_option maxHeartbeats 2000000
/-! texts of great ints: the digits' limit is the usual one -/
namespace DL
open PySem PySem.Spec L2
open PyProof.Rows hiding St
/-- the limit of digits was never set -/
def NoMax (h : Heap) : Prop := ∃ mc, h.Ns cStatics mc ∧ mc "sys.int_max_str_digits" = none
theorem NoMax.keeps {h h' : Heap} (x : NoMax h) (k : ∀ b o, h.get? b = some o → h'.get? b = some o) : NoMax h' := by
  obtain ⟨mc, ⟨o, es, ep, e, d, r⟩, q⟩ := x
  exact ⟨mc, ⟨o, es, ep, k _ _ e, d, r⟩, q⟩
section
variable {M : Model} {A : Around} {E : Value → Shared → Prop} {s : Shared}
theorem over_none {a : Int} (h : a.natAbs.log2 < 12900) (hn : NoMax s.heap) {Q : Option Nat → Shared → Prop} (q : Q none s) : wpAny M A (Builtin.overDigitLimit? a) Q E s := by
  unfold Builtin.overDigitLimit?
  by_cases h1 : a.natAbs.log2 < 1920
  · rw [if_pos h1]; exact wpAny_pure q
  rw [if_neg h1]
  obtain ⟨mc, hns, hk⟩ := hn
  unfold Builtin.intMaxStrDigits
  refine wpAny_bind (wpAny_bind (wpAny_nsGet hns ?_))
  rw [hk]
  refine wpAny_pure ?_
  have h2 : ¬ (a.natAbs.log2 / 30 + 1 > 1000) := by omega
  have h3 : ((4300 == 0) || decide (a.natAbs.log2 < 3 * 4300)) = true := by
    rw [Bool.or_eq_true]; exact .inr (decide_eq_true (by omega))
  simp only [h2, if_false, h3, if_true]
  exact wpAny_pure q
theorem gives_repr_big (a : Int) (t : Tok) (h : a.natAbs.log2 < 12900) : GivesAt (fun s => NoMax s.heap) (Builtin.«int.__repr__» ⟨[.int a t], []⟩) (.str (toString a)) := by
  intro prog w A R s hn hp
  unfold Builtin.«int.__repr__»
  show wpAny (model prog w) A.in1 (do let r ← Builtin.overDigitLimit? a; _) _ _ s
  refine wpAny_bind (over_none h hn ?_)
  exact (show Gives _ (.str (toString a)) from .of_eq rfl) prog w A R s hp
end
section
variable {prog : Program} {w : World} {A : Around} {E : Value → Shared → Prop} {s : Shared}
theorem big_fits {a : Int} (h : a.natAbs.log2 < 12900) : (Str.ofString (toString a)).length ≤ sizeLine := by
  have e := int_text_length_le (k := 12900) (by decide) h
  rw [PySem.ofString_length, sizeLine_eq]
  omega
theorem reprObj_big {a : Int} {t : Tok} {Q : Value → Shared → Prop} (ha : a.natAbs.log2 < 12900) (hn : NoMax s.heap) (h : Q (.str (toString a) s.toks) { s with toks := s.toks + 1 }) : wpAny (model prog w) A (pyReprObj (.int a t)) Q E s := by
  unfold pyReprObj
  have hv : [Value.int a t].any Value.onHeap = false := rfl
  simp only [cRoomFor, hv, Bool.false_eq_true, if_false, pure_bind]
  refine wpAny_bind (wpAny_specialOf (name := Str.ofString "__repr__") (typeIs_int s a t) F.slot_int_repr.lookup ?_)
  refine wpAny_bind (m := callSpecialIfBound? (.int a t) (Str.ofString "__repr__")) (wpAny_callSpecialIfBound?_slot (name := Str.ofString "__repr__") (typeIs_int s a t) F.slot_int_repr (call_givesAt F.slot_int_repr (typeIs_int s a t) F.entry_int_repr (F.args_int_repr_1 _) (gives_repr_big a t ha) hn ⟨big_fits ha, ?_⟩))
  exact wpAny_bind (wpAny_isInstance (T := "str") (b := true) rfl isSubtype_str_str (wpAny_pure h))
theorem ReprK.big {h₀ : Heap} {a : Int} (t : Tok) (ha : a.natAbs.log2 < 12900) (hn : NoMax h₀) (as : List Addr) (d : Nat) : ReprK prog w as h₀ d (.int a t) (toString a) := fun n hb A _ E s Q _ _ _ hk hQ => by
  have hn' : n ≤ sizeLine := by omega
  rw [pyReprUnder_leaf (v := .int a t) hn' (fun _ e => nomatch e)]
  unfold pyRepr
  exact wpAny_bind (reprObj_big ha (hn.keeps hk) (wpAny_pure (hQ s.heap _ fun _ _ e => e)))
end
/-! ### data without dicts, ints of up to 12900 bits -/
mutual
def bigOk : PyData → Bool
  | .none | .bool _ | .str _ => true
  | .int i => decide (i.natAbs.log2 < 12900)
  | .list xs | .tuple xs => bigOks xs
  | .dict _ => false
def bigOks : List PyData → Bool
  | [] => true
  | x :: xs => bigOk x && bigOks xs
end
section
variable {prog : Program} {w : World} {h₀ : Heap}
theorem ram_cons {n : Nat} {a : Addr} {d : PyData} {as bs : List Addr} {m : Nat} (r : Reads h₀ (.ref a) d as) (h1 : d.depth ≤ m) (h2 : n ≤ m) (hb : ReadAtMost h₀ n bs) : ReadAtMost h₀ m (a :: bs) := by
  intro b q
  cases q with
  | head => exact ⟨_, _, r, h1⟩
  | tail _ q =>
    obtain ⟨e, cs, r', l⟩ := hb b q
    exact ⟨e, cs, r', Nat.le_trans l h2⟩
/-- the text of v is told, whatever else happens -/
def Told (prog : Program) (w : World) (h₀ : Heap) (v : Value) (n : Nat) (t : Str) : Prop := ∃ bs, ReadAtMost h₀ n bs ∧ ReprK prog w bs h₀ n v t
def Tolds (prog : Program) (w : World) (h₀ : Heap) (vs : List Value) (n : Nat) (ts : List Str) : Prop := ∃ bs, ReadAtMost h₀ n bs ∧ ReprAllK prog w bs h₀ n vs ts
theorem Told.flat {v : Value} {n : Nat} {t : Str} (h : ReprK prog w [] h₀ n v t) : Told prog w h₀ v n t := ⟨[], nofun, h⟩
theorem Tolds.nil {n : Nat} : Tolds prog w h₀ [] n [] := ⟨[], nofun, .nil⟩
theorem Tolds.cons {v : Value} {vs : List Value} {n m : Nat} {t : Str} {ts : List Str} (h : Told prog w h₀ v n t) (r : Tolds prog w h₀ vs m ts) : Tolds prog w h₀ (v :: vs) (max n m) (t :: ts) := by
  obtain ⟨b, hb, k⟩ := h
  obtain ⟨c, hc, q⟩ := r
  refine ⟨b ++ c, fun p hp => ?_, .cons ((k.more fun p hp => List.mem_append.mpr (.inl hp)).level_le (Nat.le_max_left n m)) (q.more_le (fun p hp => List.mem_append.mpr (.inr hp)) (Nat.le_max_right n m))⟩
  rcases List.mem_append.mp hp with z | z
  · obtain ⟨e, cs, x, y⟩ := hb p z
    exact ⟨e, cs, x, Nat.le_trans y (Nat.le_max_left n m)⟩
  · obtain ⟨e, cs, x, y⟩ := hc p z
    exact ⟨e, cs, x, Nat.le_trans y (Nat.le_max_right n m)⟩
theorem told_tup {a : Addr} {d : PyData} {xs : List PyData} {as : List Addr} (hd : d = .tuple xs) (r : Reads h₀ (.ref a) d as) (hk : ∀ vs cs, ReadsAll h₀ vs xs cs → Tolds prog w h₀ vs (PyData.depthAll xs) (PyData.shownAll xs)) :
    Told prog w h₀ (.ref a) d.depth d.shown := by
  cases r with
  | tuple h1 h2 h3 h4 =>
    cases hd
    obtain ⟨c, hc, q⟩ := hk _ _ h4
    have dp : (PyData.tuple xs).depth = PyData.depthAll xs + 1 := by simp only [PyData.depth]
    rw [dp, show (PyData.tuple xs).shown = tupleText (PyData.shownAll xs) by simp only [PyData.shown]]
    exact ⟨a :: c, ram_cons (.tuple h1 h2 h3 h4) (Nat.le_of_eq dp) (Nat.le_succ _) hc, ReprK.tuple h1 h2 h3 (not_mem_of_deeper (.tuple h1 h2 h3 h4) (by rw [dp]; exact Nat.lt_succ_self _) hc) q⟩
  | _ => cases hd
theorem told_lst {a : Addr} {d : PyData} {xs : List PyData} {as : List Addr} (hd : d = .list xs) (r : Reads h₀ (.ref a) d as) (hk : ∀ vs cs, ReadsAll h₀ vs xs cs → Tolds prog w h₀ vs (PyData.depthAll xs) (PyData.shownAll xs)) :
    Told prog w h₀ (.ref a) d.depth d.shown := by
  cases r with
  | list h1 h2 h3 h4 =>
    cases hd
    obtain ⟨c, hc, q⟩ := hk _ _ h4
    have dp : (PyData.list xs).depth = PyData.depthAll xs + 1 := by simp only [PyData.depth]
    rw [dp, show (PyData.list xs).shown = listText (PyData.shownAll xs) by simp only [PyData.shown]]
    have na := not_mem_of_deeper (.list h1 h2 h3 h4) (by rw [dp]; exact Nat.lt_succ_self _) hc
    refine ⟨a :: c, ram_cons (.list h1 h2 h3 h4) (Nat.le_of_eq dp) (Nat.le_succ _) hc, ?_⟩
    rename_i o vs n cs
    obtain ⟨l⟩ := vs
    cases l with
    | nil =>
      cases (show ReadsAll h₀ [] xs _ from h4)
      rw [show listText (PyData.shownAll []) = ("[]" : Str) by simp only [PyData.shownAll, listText_nil]]
      exact ReprK.listEmpty h1 h2 h3
    | cons x l => exact ReprK.list h1 h2 h3 na (by simpa using q.length_eq) fun i y e => q.item i y (by simpa using e)
  | _ => cases hd
mutual
theorem told_big (hn : NoMax h₀) : ∀ (d : PyData) {v : Value} {as : List Addr}, Reads h₀ v d as → bigOk d = true → d.shown.length ≤ sizeLine → Told prog w h₀ v d.depth d.shown
  | .none, _, _, r, _, _ => by cases r; rw [show PyData.none.shown = ("None" : Str) by simp only [PyData.shown]]; exact .flat (.of_is .none _ _ _)
  | .bool b, _, _, r, _, _ => by cases r; rw [show (PyData.bool b).shown = ((if b then "True" else "False") : Str) by simp only [PyData.shown]]; exact .flat (.of_is (.bool b) _ _ _)
  | .int i, _, _, r, h, _ => by cases r; rw [show (PyData.int i).shown = toString i by simp only [PyData.shown]]; exact .flat (ReprK.big _ (by simpa [bigOk] using h) hn _ _)
  | .str x, _, _, r, _, z => by cases r; rw [show (PyData.str x).shown = reprText x by simp only [PyData.shown]] at z ⊢; exact .flat (.of_is (.str x _ z) _ _ _)
  | .tuple xs, v, as, r, h, z => by
    rw [show (PyData.tuple xs).shown = tupleText (PyData.shownAll xs) by simp only [PyData.shown]] at z
    have r' := r
    cases r'
    exact told_tup rfl r fun vs cs q => tolds_big hn xs q (by simpa [bigOk] using h) fun t m => Nat.le_trans (tupleText_mem_le m) z
  | .list xs, v, as, r, h, z => by
    rw [show (PyData.list xs).shown = listText (PyData.shownAll xs) by simp only [PyData.shown]] at z
    have r' := r
    cases r'
    exact told_lst rfl r fun vs cs q => tolds_big hn xs q (by simpa [bigOk] using h) fun t m => Nat.le_trans (listText_mem_le m) z
  | .dict _, _, _, _, h, _ => by simp [bigOk] at h
theorem tolds_big (hn : NoMax h₀) : ∀ (ds : List PyData) {vs : List Value} {as : List Addr}, ReadsAll h₀ vs ds as → bigOks ds = true → (∀ t ∈ PyData.shownAll ds, t.length ≤ sizeLine) → Tolds prog w h₀ vs (PyData.depthAll ds) (PyData.shownAll ds)
  | [], _, _, r, _, _ => by cases r; rw [show PyData.shownAll [] = [] by simp only [PyData.shownAll]]; exact .nil
  | d :: ds, _, _, r, h, z => by
    cases r with
    | cons r rs =>
      rw [show PyData.shownAll (d :: ds) = d.shown :: PyData.shownAll ds by simp only [PyData.shownAll]] at z ⊢
      rw [show PyData.depthAll (d :: ds) = max d.depth (PyData.depthAll ds) by simp only [PyData.depthAll]]
      have h' : bigOk d = true ∧ bigOks ds = true := by simpa [bigOks] using h
      exact .cons (told_big hn d r h'.1 (z _ (List.mem_cons_self ..))) (tolds_big hn ds rs h'.2 fun t m => z t (List.mem_cons_of_mem _ m))
end
end
end DL
set_option Elab.async false
set_option linter.all false
set_option maxRecDepth 100000
set_option maxHeartbeats 2000000
namespace DL
open PySem PySem.Spec L2
open PyProof.Rows hiding St
section
variable {prog : Program} {w : World} {h₀ : Heap} {A : Around} {E : Value → Shared → Prop} {s : Shared}
/-- repr of a list or a tuple whose ints are of any usual size -/
theorem repr_seq {a : Addr} {d : PyData} {as : List Addr} {Q : Value → Shared → Prop} (r : Reads s.heap (.ref a) d as) (hn : NoMax s.heap) (hb : bigOk d = true) (hz : d.shown.length ≤ sizeLine) (hg : A.guards = some []) (hu : A.units + (d.depth + 1) < cLine)
    (hQ : ∀ h' u tk, (∀ b o, s.heap.get? b = some o → h'.get? b = some o) → Q (.str d.shown u) { s with heap := h', toks := tk }) : wpAny (model prog w) A (call (.builtin "repr") [.ref a]) Q E s := by
  have hu1 : A.in1.units + d.depth < cLine := by
    show A.units + 1 + d.depth < cLine
    omega
  have r' := r
  cases d with
  | list xs =>
    cases r' with
    | list h1 h2 h3 h4 =>
      rename_i o vs n cs
      have zz : (PyData.list xs).shown = listText (PyData.shownAll xs) := by simp only [PyData.shown]
      have dd : (PyData.list xs).depth = PyData.depthAll xs + 1 := by simp only [PyData.depth]
      rw [zz] at hz hQ
      rw [dd] at hu1
      refine call_repr_slot (T := "list") (by omega) ⟨o, h1, h2⟩ F.slot_list_repr.toG ?_
      obtain ⟨bs, hbs, hk⟩ := tolds_big (prog := prog) (w := w) hn xs h4 (by simpa [bigOk] using hb) fun t m => Nat.le_trans (listText_mem_le m) hz
      obtain ⟨l⟩ := vs
      cases l with
      | nil =>
        cases (show ReadsAll s.heap [] xs _ from h4)
        rw [show listText (PyData.shownAll []) = ("[]" : Str) by simp only [PyData.shownAll, listText_nil]] at hQ
        exact call_list_repr_empty ⟨o, h1, h2⟩ h1 h3 ⟨_, _, rfl, hQ s.heap _ _ fun _ _ e => e⟩
      | cons x l =>
        have na := not_mem_of_deeper r (by rw [dd]; exact Nat.lt_succ_self _) hbs
        exact call_list_reprK h1 h2 h3 na (by simpa using hk.length_eq) (fun i y e => hk.item i y (by simpa using e)) hg (fun b _ => Clear.nil b) hu1 (fun _ _ e => e) (fun h' u tk k => ⟨_, _, rfl, hQ h' u tk k⟩) hz
  | tuple xs =>
    cases r' with
    | tuple h1 h2 h3 h4 =>
      rename_i o vs n
      have zz : (PyData.tuple xs).shown = tupleText (PyData.shownAll xs) := by simp only [PyData.shown]
      have dd : (PyData.tuple xs).depth = PyData.depthAll xs + 1 := by simp only [PyData.depth]
      rw [zz] at hz hQ
      rw [dd] at hu1
      refine call_repr_slot (T := "tuple") (by omega) ⟨_, h1, h2⟩ F.slot_tuple_repr ?_
      obtain ⟨bs, hbs, hk⟩ := tolds_big (prog := prog) (w := w) hn xs h4 (by simpa [bigOk] using hb) fun t m => Nat.le_trans (tupleText_mem_le m) hz
      have na := not_mem_of_deeper r (by rw [dd]; exact Nat.lt_succ_self _) hbs
      exact call_tuple_reprK h1 h2 h3 na hk hg (fun b _ => Clear.nil b) hu1 (fun _ _ e => e) (fun h' u tk k => ⟨_, _, rfl, hQ h' u tk k⟩) hz
  | dict kvs => simp [bigOk] at hb
  | _ => cases r'
end
/-- the module's own facts say that the limit was not set -/
def mxB (K : PySem.W.Frag) : Bool := decide (PySem.W.nsIn K cStatics "sys.int_max_str_digits" = some none)
theorem nomax_of {K : PySem.W.Frag} {h : Heap} (X : K.In h) (hl : h.NoLimit) (c : mxB K = true) : NoMax h := by
  obtain ⟨mc, hn, _⟩ := hl
  exact ⟨mc, hn, PySem.W.ns_none_of X hn (of_decide_eq_true c)⟩
section
variable {X : Cx} {F : FP} {e : Expr} {es : List Expr} {pos : Pos} {Tas : TDA} {pins : List (Addr × Obj)} {σ : L2.St} {H : Hp} {s : Shared}
theorem inv_nomax (I : Inv X pins σ H s) (c : mxB X.K = true) : NoMax s.heap := (nomax_of I.ok.mod.kin I.ok.mod.nolimit c).keeps I.bk
/-- as showOk, of tuples and lists, ints of up to 12900 bits -/
def showB (d : D) : Prop := plain d = true ∧ bigOk (toP d) = true ∧ (toP d).depth ≤ 64 ∧ ((toP d).shown).length ≤ sizeLine
def gReprB : GA := fun xs Q => match xs with
  | [.tup ds] => showB (.tup ds) ∧ Q (.str (toP (.tup ds)).shown)
  | [.lst ds] => showB (.lst ds) ∧ Q (.str (toP (.lst ds)).shown)
  | _ => False
def rReprB (K : PySem.W.Frag) : List V → Hp → VK → Prop := fun vs H Q => ∃ a d, vs = [.ref a] ∧ Dp K H (.ref a) d ∧ bigOk d = true ∧ d.depth ≤ 64 ∧ d.shown.length ≤ sizeLine ∧ Q (.str d.shown) H
theorem cr_reprB (c : mxB X.K = true) (hg : X.A.guards = some []) (hu : X.A.units + 80 < cLine) : CallR X (.builtin "repr") (rReprB X.K) := by
  intro pins s σ H vs us Q I r h
  obtain ⟨a, d, rfl, dp, h1, h3, h4, q⟩ := h
  obtain ⟨u, rfl, rv⟩ := vals1 r
  obtain ⟨as, rd⟩ := Dp.reads I d _ u dp rv
  cases rv
  exact repr_seq rd (inv_nomax I c) h1 h4 hg (by omega) fun h' u tk hk => ⟨.str _, H, I.kept (t' := tk) hk, ⟨_, rfl⟩, q⟩
theorem cd_reprB : CallD F (rReprB F.K) gReprB := ⟨by
  intro N H vs ds Qd Q n r h k
  unfold gReprB at h
  split at h
  · rename_i d
    obtain ⟨v, r, rfl, h1, h2⟩ := r
    cases h2
    obtain ⟨⟨p, s1, s2, s3⟩, q⟩ := h
    have h1' := h1
    obtain ⟨a, vs, rfl, _⟩ := h1'
    exact ⟨a, _, rfl, Rep.dp _ _ p h1, s1, s2, s3, k _ _ _ Ext.refl rep_str q⟩
  · rename_i d
    obtain ⟨v, r, rfl, h1, h2⟩ := r
    cases h2
    obtain ⟨⟨p, s1, s2, s3⟩, q⟩ := h
    have h1' := h1
    obtain ⟨a, vs, rfl, _⟩ := h1'
    exact ⟨a, _, rfl, Rep.dp _ _ p h1, s1, s2, s3, k _ _ _ Ext.refl rep_str q⟩
  · exact h.elim⟩
theorem d_reprB {p : Pos} (hK : F.K = X.K) (c : mxB X.K = true) (hgd : X.A.guards = some []) (hu : X.A.units + 80 < cLine) (hg : Gl X "repr") (hm : X.mg "repr" = none) (ha : PA X (e :: es) (tDA F Tas))
    (he : starEach (e :: es) X.env = (false, eval e X.env) :: starEach es X.env := by rfl) (hpl : (backTo pos (starEach es X.env)).any (·.1) = false := by rfl) : PE X (.Call (.Name "repr" p) (e :: es) [] pos) (tD F (dCB gReprB Tas)) := by
  have z := cd_reprB (F := F)
  rw [hK] at z
  exact d_callB z (cr_reprB c hgd hu) hg hm (by decide +kernel) ha (by decide) (by decide) he hpl
end
end DL
set_option Elab.async false
set_option linter.all false
set_option maxRecDepth 100000
set_option maxHeartbeats 2000000
/-! int of a text of up to 4300 signs -/
namespace DL
open PySem PySem.Spec L2 PySem.NumText
open PyProof.Rows hiding St
section
variable {M : Model} {A : Around} {E : Value → Shared → Prop} {s : Shared}
theorem max_read {Q : Nat → Shared → Prop} (hn : NoMax s.heap) (q : Q 4300 s) : wpAny M A Builtin.intMaxStrDigits Q E s := by
  obtain ⟨mc, hns, hk⟩ := hn
  unfold Builtin.intMaxStrDigits
  refine wpAny_bind (wpAny_nsGet hns ?_)
  rw [hk]
  exact wpAny_pure q
theorem from_text {v : Value} {text : List Nat} {n : Int} {Q : Value → Shared → Prop} (hn : NoMax s.heap) (long : ¬ (text.takeWhile (· != 0)).length ≤ 640)
    (reads : (int_private% "readNumeral") 4300 10 (text.takeWhile (· != 0)) = (int_private% "Numeral.value") n) (whole : ((text.takeWhile (· != 0)).length == text.length) = true) (h : Q (.int n s.toks) { s with toks := s.toks + 1 }) :
    wpAny M A ((int_private% "intFromText") v text 10) Q E s := by
  obtain ⟨hp, g, d, tk, os⟩ := s
  repeat (any_goals (first
    | assumption
    | (with_reducible refine wpAny_ite_false (decide_eq_false long) ?_)
    | (with_reducible refine wpAny_ite_true (decide_eq_true whole) ?_)
    | (with_reducible refine max_read hn ?_)
    | wp_step))
  all_goals (try rw [reads])
  all_goals (try dsimp only)
  repeat (any_goals (first
    | assumption
    | (with_reducible refine wpAny_ite_false (decide_eq_false long) ?_)
    | (with_reducible refine wpAny_ite_true (decide_eq_true whole) ?_)
    | wp_step))
end
structure Box (p : Prop) : Prop where
  it : p
set_option maxHeartbeats 4000000 in
theorem new_wp {x : PySem.Str} {u : Tok} {n : Int} (h1 : 640 < (numSeenOf x).length) (h2 : x.length ≤ sizeLine) (told : PySem.intText? x = some n) {M : Model} {A : Around} {E : Value → Shared → Prop} {s : Shared} {Q : Value → Shared → Prop}
    (hn : NoMax s.heap) (h : Q (.int n s.toks) { s with toks := s.toks + 1 }) : wpAny M A (Builtin.«int.__new__» ⟨[.type "int", .str x u], []⟩) (fun fin s' => ∃ v, fin = .done (.ret v) ∧ Q v s') E s := by
  have hk : Box (¬ (numSeenOf x).length ≤ 640 ∧ (int_private% "readNumeral") 4300 10 (numSeenOf x) = (int_private% "Numeral.value") n ∧ ((numSeenOf x).length == (numTextOf x).length) = true) := by
    rcases read4300 x h2 with ⟨m, q1, q2, q3⟩ | ⟨q1, _⟩
    · rw [told] at q1
      cases q1
      exact ⟨by omega, q3, q2⟩
    · rw [told] at q1
      cases q1
  clear h1 h2 told
  obtain ⟨hp, g, d, tk, os⟩ := s
  have w1 := F.conv_sub_int
  have w2 := F.madeHere_int
  have w3 := PySem.W.KIN.str_int
  have w4 := PySem.W.KIN.str_idx
  have w5 := PySem.W.KIN.str_trunc
  have w6 : typeOf (.str x u) = pure (.type "str") := rfl
  repeat (any_goals (first
    | assumption
    | ((with_reducible show wpAny _ _ ((int_private% "intFromText") _ _ _) _ _ _); refine from_text hn hk.it.1 hk.it.2.1 hk.it.2.2 ?_)
    | wp_step))
  all_goals first | exact ⟨_, rfl, h⟩ | skip
section
variable {prog : Program} {w : World} {A : Around} {E : Value → Shared → Prop} {s : Shared} {Q : Value → Shared → Prop}
theorem int_text43 {x : PySem.Str} {t : Tok} {n : Int} (h1 : 640 < (numSeenOf x).length) (h2 : x.length ≤ sizeLine) (told : PySem.intText? x = some n) (hn : NoMax s.heap) (h : Q (.int n s.toks) { s with toks := s.toks + 1 }) :
    wpAny (model prog w) A (call (.type "int") [.str x t]) Q E s := by
  refine call_int_1 (S := fun _ R s => NoMax s.heap ∧ R (.ok (.ret (.int n s.toks))) { s with toks := s.toks + 1 }) ?_ ⟨hn, PySem.typeIs_int _ _ _, h⟩
  intro prog w A R s hs
  exact wpAny_mono (new_wp h1 h2 told (Q := fun v s' => R (.ok (.ret v)) s') hs.1 hs.2) (fun fin s' ⟨v, e, q⟩ => by subst e; exact q) fun _ _ z => z
end
end DL
set_option Elab.async false
set_option linter.all false
set_option maxRecDepth 100000
set_option maxHeartbeats 2000000
namespace DL
open PySem PySem.Spec L2 PySem.NumText
open PyProof.Rows hiding St
theorem nine_seen (n : Nat) : (numSeenOf (nine (n + 1))).length = n + 1 := by
  have hall : ((nine (n + 1)).cps.all (· < 128)) = true := by
    rw [← Array.all_toList, nine_cps, List.all_eq_true]
    intro x hx
    rw [(List.mem_replicate.mp hx).2]
    rfl
  have e1 : numTextOf (nine (n + 1)) = List.replicate (n + 1) 57 := by
    unfold numTextOf
    rw [if_pos hall, nine_cps]
  unfold numSeenOf
  rw [e1, List.takeWhile_replicate]
  exact List.length_replicate
section
variable {X : Cx} {F : FP} {Ta Tb : TDE} {Tas : TDA} {e a b c : Expr} {es : List Expr} {pos : Pos} {st : Stmt}
theorem call_int_strB (m : mxB X.K = true) : CallR X (.type "int") (fun xs H Q => ∃ a n, xs = [.str a] ∧ PySem.intText? a = some n ∧ a.length ≤ 4300 ∧ (a.length ≤ 640 ∨ 640 < (numSeenOf a).length) ∧ Q (.int n) H) := by
  intro pins s σ H xs us Q I rs h
  obtain ⟨a, n, rfl, hn, hl, hc, h⟩ := h
  obtain ⟨u, rfl, t, rfl⟩ := vals1 rs
  rcases hc with hc | hc
  · exact PySem.W.KIN.call_text hn hc ⟨.int n, H, I.tok _, ⟨_, rfl⟩, h⟩
  · exact int_text43 hc (Nat.le_trans hl (by rw [sizeLine_eq]; omega)) hn (inv_nomax I m) ⟨.int n, H, I.tok _, ⟨_, rfl⟩, h⟩
def gNinesB : G1 := fun x Q => match x with
  | .int n => (2 ≤ n ∧ n ≤ 4300) ∧ Q (.int (10 ^ n.toNat - 1))
  | _ => False
theorem d_ninesB {k : Nat} {p p1 p2 : Pos} {n : Expr} (m : mxB X.K = true) (hg : Gl X "int") (hm : X.mg "int" = none) (hn : PE X n (tD F Ta)) (he : starEach [.BinOp (.Constant (.str "9") k p1) .Mult n p2] X.env = (false, eval (.BinOp (.Constant (.str "9") k p1) .Mult n p2) X.env) :: starEach [] X.env := by rfl)
    (hpl : (backTo pos (starEach [] X.env)).any (·.1) = false := by rfl) : PE X (.Call (.Name "int" p) [.BinOp (.Constant (.str "9") k p1) .Mult n p2] [] pos) (tD F (dUn gNinesB Ta)) :=
  PE.imp (pe_callTy (call_int_strB m) hg hm (by decide +kernel) (pa_cons (pe_op op_nine pe_str hn) pa_nil he) (by decide) (by decide) he hpl) (by
  rintro σ H Q ⟨N, env, Qd, f, hT, k⟩
  refine ⟨N, env, _, f, hT, fun v H1 d e1 r q => ?_⟩
  cases d <;> first | exact q.elim | skip
  rename_i n
  obtain ⟨⟨h1, h2⟩, q⟩ := q
  refine ⟨n, rfl, r, ⟨h1, by omega⟩, ?_⟩
  obtain ⟨m, hm⟩ : ∃ m, n.toNat = m + 1 := ⟨n.toNat - 1, by omega⟩
  refine ⟨nine n.toNat, _, rfl, ?_, by rw [nine_len]; omega, ?_, k _ _ _ e1 rep_int q⟩
  · rw [hm]
    exact nine_int m (by omega)
  · rw [nine_len, hm, nine_seen]
    omega)
end
end DL
set_option Elab.async false
set_option linter.all false
set_option maxRecDepth 100000
/-! facts of the program's own exception classes -/
namespace DL
open PySem PySem.Spec L2
open PyProof.Rows hiding St
abbrev excTail : List Value := [.type "Exception", .type "BaseException", .type "object"]
def clsB (K : PySem.W.Frag) (n : Str) : Bool := match PySem.W.nsIn K mainGlobals n with
  | some (some (.ref a)) => PySem.W.excIn K a excTail "Exception.__new__" && PySem.W.keepIn K (.ref a) && decide (PySem.W.subIn K (.ref a) (.type "BaseException") = some true) && decide (PySem.W.typeIn K (.ref a) = some (.type "type"))
  | _ => false
def exmB (K : PySem.W.Frag) (n m : Str) (b : Bool) : Bool := decide (PySem.W.exmOne K (clsAt K n) (clsAt K m) = some b)
structure ClsF (K : PySem.W.Frag) (mg : Str → Option Value) (n : Str) (a : Addr) : Prop where
  at_ : clsAt K n = .ref a
  g : mg n = some (.ref a)
  q : PySem.W.excIn K a excTail "Exception.__new__" = true
  kp : PySem.W.keepIn K (.ref a) = true
  sub : PySem.W.subIn K (.ref a) (.type "BaseException") = some true
  ty : PySem.W.typeIn K (.ref a) = some (.type "type")
theorem cls_ok {K : PySem.W.Frag} {h : Heap} {mg : Str → Option Value} (X : K.In h) (G : h.Ns mainGlobals mg) {n : Str} (c : clsB K n = true) : ∃ a, ClsF K mg n a := by
  unfold clsB at c
  split at c
  · rename_i a e
    simp only [Bool.and_eq_true, decide_eq_true_eq] at c
    refine ⟨a, ?_, PySem.W.mg_of X G e, c.1.1.1, c.1.1.2, c.1.2, c.2⟩
    unfold clsAt
    rw [e]
  · cases c
end DL
set_option maxRecDepth 100000
namespace DL
open PySem PySem.Spec L2
/-! ### plain facts for readings -/
theorem ifd {p : Prop} [Decidable p] {A B : Prop} (h1 : p → A) (h2 : ¬ p → B) : if decide p = true then A else B := by
  by_cases h : p
  · rw [decide_eq_true h, if_pos rfl]; exact h1 h
  · rw [decide_eq_false h, if_neg Bool.false_ne_true]; exact h2 h
theorem ifdn {p : Prop} [Decidable p] {A B : Prop} (h1 : ¬ p → A) (h2 : p → B) : if (!decide p) = true then A else B := by
  by_cases h : p
  · rw [decide_eq_true h]; exact h2 h
  · rw [decide_eq_false h]; exact h1 h
theorem sz {n : Nat} (h : n ≤ 1000 := by decide) : n ≤ sizeLine := Nat.le_trans h (by rw [sizeLine_eq]; decide)
/-- an int of at most n bits -/
def Bd (n : Nat) (i : Int) : Prop := i.natAbs < 2 ^ n
theorem Bd.mono {n m : Nat} {i : Int} (h : Bd n i) (l : n ≤ m) : Bd m i := Nat.lt_of_lt_of_le h (Nat.pow_le_pow_right (by decide) l)
theorem Bd.mul {n m : Nat} {i j : Int} (h : Bd n i) (g : Bd m j) : Bd (n + m) (i * j) := wide_lt h g
theorem Bd.neg {n : Nat} {i : Int} (h : Bd n i) : Bd n (-i) := by unfold Bd; rw [Int.natAbs_neg]; exact h
theorem Bd.add {n : Nat} {i j : Int} (h : Bd n i) (g : Bd n j) : Bd (n + 1) (i + j) := by
  unfold Bd at *
  have : (i + j).natAbs ≤ i.natAbs + j.natAbs := Int.natAbs_add_le i j
  rw [Nat.pow_succ]
  omega
theorem Bd.sub {n : Nat} {i j : Int} (h : Bd n i) (g : Bd n j) : Bd (n + 1) (i - j) := by
  rw [Int.sub_eq_add_neg]
  exact h.add g.neg
theorem Bd.cmul {n m : Nat} {i j : Int} (h : Bd n i) (g : Bd m j) (l : n + m ≤ 900000 := by decide) : CMulW i j :=
  wide_mul (h.mono (Nat.le_succ n)) (g.mono (Nat.le_succ m)) (Nat.succ_pos _) (Nat.succ_pos _) (by omega)
theorem Bd.lit {n : Nat} {i : Int} (h : i.natAbs < 2 ^ n := by decide) : Bd n i := h
theorem Bd.of_le {n : Nat} {i j : Int} (h : Bd n j) (l : i.natAbs ≤ j.natAbs) : Bd n i := Nat.lt_of_le_of_lt l h
theorem Bd.cdiv {n : Nat} {i j : Int} (h : Bd n j) (p : 0 < j) (l : n ≤ 8000 := by decide) : CDivW i j :=
  wide_div p (h.mono (Nat.le_succ n)) (Nat.succ_pos _) (by omega)
theorem bd_small {i : Int} {n m : Nat} (h0 : 0 ≤ i) (h : i < n) (l : n ≤ 2 ^ m := by decide) : Bd m i := by
  unfold Bd
  omega
end DL
set_option Elab.async false
set_option linter.all false
set_option maxRecDepth 100000
set_option maxHeartbeats 2000000
/-! own exception classes whose __init__ stores its one parameter: facts, raise X(e) -/
namespace DL
open PySem PySem.Spec L2
open PySem.Builtin PySem.Builtin.ObjectAttr
open PyProof.Rows hiding St
def exc3 : List Value := [.type "Exception", .type "BaseException", .type "object"]
/-- the class n at C, its __init__ at fI; par: the parameter and the field -/
structure ExF (K : PySem.W.Frag) (mg : Str → Option Value) (n par : Str) (C fI : Addr) : Prop where
  at_ : clsAt K n = .ref C
  g : mg n = some (.ref C)
  q : PySem.W.excInitIn K C exc3 "Exception.__new__" = true
  ov : PySem.W.excOver K C exc3 = true
  sa : PySem.W.findIn K (.ref C) "__setattr__" = some (some (.builtin "object.__setattr__"))
  xf : XfC K C
  tk : PySem.W.takerIn K C par = some none
  no : PySem.W.findIn K (.ref C) par = some none
  iC : PySem.W.findIn K (.ref C) "__init__" = some (some (.ref fI))
  tI : PySem.W.typeIn K (.ref fI) = some (.type "function")
  kC : PySem.W.keepIn K (.ref C) = true
  tyC : PySem.W.typeIn K (.ref C) = some (.type "type")
def exfB (K : PySem.W.Frag) (n par : Str) : Bool := match PySem.W.nsIn K mainGlobals n with
  | some (some (.ref C)) => PySem.W.excInitIn K C exc3 "Exception.__new__" && PySem.W.excOver K C exc3 && decide (PySem.W.findIn K (.ref C) "__setattr__" = some (some (.builtin "object.__setattr__"))) && xfB K C && decide (PySem.W.takerIn K C par = some none) &&
    decide (PySem.W.findIn K (.ref C) par = some none) && PySem.W.keepIn K (.ref C) && decide (PySem.W.typeIn K (.ref C) = some (.type "type")) && (match PySem.W.findIn K (.ref C) "__init__" with
    | some (some (.ref f)) => decide (PySem.W.typeIn K (.ref f) = some (.type "function")) && decide (f = He.fAd K (n, some "__init__"))
    | _ => false)
  | _ => false
theorem exf_ok {K : PySem.W.Frag} {h : Heap} {mg : Str → Option Value} (X : K.In h) (G : h.Ns mainGlobals mg) {n par : Str} (c : exfB K n par = true) : ∃ C, ExF K mg n par C (He.fAd K (n, some "__init__")) := by
  unfold exfB at c
  split at c
  · rename_i C e
    simp only [Bool.and_eq_true, decide_eq_true_eq] at c
    obtain ⟨⟨⟨⟨⟨⟨⟨⟨c1, c2⟩, c3⟩, c4⟩, c5⟩, c6⟩, c7⟩, c8⟩, c9⟩ := c
    split at c9
    · rename_i f ef
      simp only [Bool.and_eq_true, decide_eq_true_eq] at c9
      obtain ⟨d1, d2⟩ := c9
      subst d2
      exact ⟨C, by unfold clsAt; rw [e], PySem.W.mg_of X G e, c1, c2, c3, xfB_ok c4, c5, c6, ef, d1, c7, c8⟩
    · cases c9
  · cases c
theorem sz1 (v : Value) : [v].length ≤ sizeLine := by
  rw [sizeLine_eq]
  exact (by decide : 1 ≤ 16777216)
/-- the fresh exception behind its __init__ -/
structure XiEnd (h h' : Heap) (x C dx t1 : Addr) (par : Str) (v : Value) : Prop where
  keep : ∀ b o, b ≠ x → h.get? b = some o → h'.get? b = some o
  obj : h'.get? x = some { cls := .ref C, dict := some dx, data := .fields #[.ref t1, .none, .none, .none, .bool false, .none] }
  dbig : h.objs.size ≤ dx
  dne : dx ≠ x
  ns : h'.Ns1 dx (fun y => if y = par then some v else none)
structure XiMade (h h' : Heap) (e C d : Addr) (par : Str) (v : Value) : Prop where
  keep : ∀ b o, h.get? b = some o → h'.get? b = some o
  new : h.objs.size ≤ e
  obj : ∃ oe vs, h'.get? e = some oe ∧ oe.cls = .ref C ∧ oe.dict = some d ∧ oe.data = .fields vs ∧ vs[1]? = some .none
  dbig : h.objs.size ≤ d
  dne : d ≠ e
  ns : h'.Ns1 d (fun y => if y = par then some v else none)
/-- the text of such an __init__ -/
structure InitTx (par : Str) (body : List Stmt) (scope : Scope) : Prop where
  body_ : ∃ q1 q2 q3 q4, body = [.Assign [.Attribute (.Name "self" q1) par q2] (.Name par q3) q4]
  kind : scope.kind = .function
  co : scope.isCoroutine = false
  gen : scope.isGenerator = false
  l1 : scope.names.lookup ("self" : Str) = some .local
  l2 : scope.names.lookup par = some .local
  ne : par ≠ "self"
  nd : (par == ("__debug__" : Str)) = false
  nc : (par == ("__classdict__" : Str)) = false
section
variable {prog : Program} {w : World} {A : Around} {E : Value → Shared → Prop} {R : Result → Shared → Prop} {s : Shared} {K : PySem.W.Frag} {mg : Str → Option Value} {C fI : Addr} {n par : Str}
theorem ld_loc {M : Model} {s : Shared} {name : Str} {scope : Scope} {L a : Addr} {cd : Value} {m : Str → Option Value} {x : Str} {pos : Pos} {v : Value} {Q : Value → Shared → Prop} {A : Around} {E : Value → Shared → Prop} (hn : s.heap.Ns L m) (hv : m x = some v) (h : Q v s)
    (hk : scope.kind = .function) (hl : scope.names.lookup x = some .local) (hd : (x == ("__debug__" : Str)) = false) : wpAny M A (eval (.Name x pos) (envOfC name scope L a cd)) Q E s :=
  wpAny_Name (wpAny_loadName_local hk hl hn hv h) hd
theorem xi_store {hp : Heap} {g : Array GenState} {d : Drawn} {t : Nat} {os : OsState} {name : Str} {tk : Tok} {v : Value} {x : Addr} {fv : Array Value} (T : ExF K mg n name C fI) (X : K.In hp) (hx : hp.get? x = some { cls := .ref C, data := .fields fv })
    (hq : ∀ h' tk' dx, (∀ b o, b ≠ x → hp.get? b = some o → h'.get? b = some o) → hp.objs.size ≤ dx → dx ≠ x → h'.get? x = some { cls := .ref C, dict := some dx, data := .fields fv } →
      h'.Ns1 dx (fun y => if y = name then some v else none) → R (.ok (.ret .none)) ⟨h', g, d, tk', os⟩) :
    codeAny (model prog w) A (.call (.builtin "object.__setattr__") ⟨[.ref x, .str name tk, v], []⟩) R ⟨hp, g, d, t, os⟩ := by
  have lt : x < hp.objs.size := Heap.lt_size hx
  have hxs : x ≠ hp.objs.size := Nat.ne_of_lt lt
  obtain ⟨cd, hcd, hdd⟩ := PySem.W.any_some T.xf.hdC
  have hc : PySem.W.Looks (model prog w) hp (classData C) cd := PySem.W.looks_clsIn X hcd
  refine PySem.W.osa_openX (od := none) (s := ⟨hp, g, d, t, os⟩) PySem.F.store_Exception X ⟨hx, rfl, rfl, trivial⟩ T.ov T.tk fun b => ?_
  obtain ⟨nm, bs, mro, ns, qn, hd, sn, sb, ab, col, del⟩ := cd
  dsimp only at hdd
  subst hdd
  show wpAny _ _ (storeInOwnDict (.ref x) (.ref C) (.str name tk) name v b) _ _ _
  cases b
  all_goals unfold storeInOwnDict ownDictForStores
  all_goals repeat (first | with_reducible refine PySem.HandSPX.store_in_new ?_ ?_ | with_reducible refine wpAny_loadPart_at hx ?_ | with_reducible refine hc.at ?_ | wp_step)
  all_goals first
    | (refine ⟨_, #[], _, (Heap.get?_update_ne _ _ _ _ hxs.symm).trans (Heap.get?_push_at rfl rfl), rfl, fun e he => ?_, fun _ => rfl⟩
       exact absurd he (by simp))
    | (intro h' tk' hn' hs
       have hx₁ : (hp.push { cls := .type "dict", data := .dict #[] }).get? x = some { cls := .ref C, data := .fields fv } := Heap.get?_push_of_some _ hx
       refine hq h' tk' hp.objs.size (fun b o hb ho => ?_) (Nat.le_refl _) hxs.symm ?_ hn'
       · have e1 := Heap.get?_push_of_some { cls := .type "dict", data := .dict #[] } ho
         exact (hs.2 b (Nat.ne_of_lt (Heap.lt_size ho))).trans ((Heap.get?_update_ne _ _ _ _ hb).trans e1)
       · exact (hs.2 x hxs).trans (Heap.get?_update_self _ hx₁ rfl))
/-- __init__ on a fresh exception -/
theorem xi_init {qual : Str} {params : Arguments} {body : List Stmt} {scope : Scope} {fd : FuncData} (T : ExF K mg n par C fI) (F : FunD K "__init__" qual params body scope [] [] fI fd) (B : Binds K fd ["self", par] []) (I : InitTx par body scope) {x t0 : Addr} {v : Value}
    (X : K.In s.heap) (hlim : s.heap.NoLimit) (hx : s.heap.get? x = some (PySem.HandSPX.excO C t0)) (hroom : A.depth < recursionLimit)
    (hq : ∀ h' tk dx, XiEnd s.heap h' x C dx t0 par v → R (.ok (.ret .none)) { s with heap := h', toks := tk }) : codeAny (model prog w) A (.call (.ref fI) ⟨[.ref x, v], []⟩) R s := by
  have bnd := B s [.ref x, v] X rfl
  obtain ⟨oc, od, dV, kV, doc, pm, an, cdv, ct, osl, rfl, lk, hcd, _, _⟩ := F.ex
  obtain ⟨q1, q2, q3, q4, rfl⟩ := I.body_
  have kd : ∀ y : Str, (envOfC qual scope s.heap.objs.size fI cdv).kindOf y = scope.names.lookup y := fun _ => rfl
  refine Att.call_fn (binds := [("self", .ref x), (par, v)]) X hlim lk hcd hroom bnd (by simp [I.l1, I.l2]) (fun s₁ IC => ?_) I.co I.gen I.kind
  obtain ⟨h₁, tk₁, rfl⟩ := IC.toInCall.same
  have k : ∀ b o, s.heap.get? b = some o → h₁.get? b = some o := IC.toInCall.keep
  have hn := IC.toInCall.ns
  have v1 : bindL (envOfC qual scope s.heap.objs.size fI cdv).kindOf [(("self" : Str), Value.ref x), (par, v)] (fun _ => none) "self" = some (.ref x) := by
    simp [bindL, kd, I.l1, I.l2, I.ne.symm, I.ne]
  have v2 : bindL (envOfC qual scope s.heap.objs.size fI cdv).kindOf [(("self" : Str), Value.ref x), (par, v)] (fun _ => none) par = some v := by
    simp [bindL, kd, I.l1, I.l2, I.ne.symm, I.ne]
  have X₁ := X.keeps k
  have hx₁ := k _ _ hx
  have z : s.heap.objs.size < h₁.objs.size := hn.lt
  refine wpAny_execs_cons (plainObj_wpAny_Assign_Attribute ?_ (by rfl))
  refine ld_loc hn v2 (ld_loc hn v1 ?_ I.kind I.l1 (by decide)) I.kind I.l2 I.nd
  refine PySem.W.set_plain X₁ (od := none) ⟨hx₁, rfl, rfl, trivial⟩ T.sa ?_
  refine xi_store T X₁ hx₁ fun h₃ tk₃ dx k₃ dn dne hx₃ hn₃ => ?_
  exact wpAny_execs_nil (hq h₃ tk₃ dx ⟨fun b o hb e => k₃ b o hb (k b o e), hx₃, Nat.le_of_lt (Nat.lt_of_lt_of_le z dn), dne, hn₃⟩)
theorem xi_made {qual : Str} {params : Arguments} {body : List Stmt} {scope : Scope} {fd : FuncData} (T : ExF K mg n par C fI) (F : FunD K "__init__" qual params body scope [] [] fI fd) (B : Binds K fd ["self", par] []) (I : InitTx par body scope) {v : Value}
    (X : K.In s.heap) (hlim : s.heap.NoLimit) (hroom : A.depth + 1 < recursionLimit) (hq : ∀ h' tk e d, XiMade s.heap h' e C d par v → R (.ok (.ret (.ref e))) { s with heap := h', toks := tk }) :
    codeAny (model prog w) A (.call (.ref C) ⟨[v], []⟩) R s := by
  obtain ⟨nm, N, q, bs, bm, hdct, sn, sub, ab, col, dd, k0, k1, k2, k3, k5, hC, hT⟩ := PySem.W.excInit_of X T.q
  obtain ⟨hp, g, dr, tk, os⟩ := s
  have k : ∀ b o, hp.get? b = some o → ((hp.push (PySem.W.kdv_tup [v])).push (PySem.HandSPX.excO C hp.objs.size)).get? b = some o := fun b o e => Heap.get?_push_of_some _ (Heap.get?_push_of_some _ e)
  have at1 : ((hp.push (PySem.W.kdv_tup [v])).push (PySem.HandSPX.excO C hp.objs.size)).get? (hp.objs.size + 1) = some (PySem.HandSPX.excO C hp.objs.size) := by heap_get
  refine PySem.HandSPX.call_own PySem.F.excBase_Exception hT hC (PySem.W.looks_findIn X T.iC) (fun self => PySem.W.bind_fn X self T.tI) (sz1 v) ?_
  refine xi_init (s := ⟨(hp.push (PySem.W.kdv_tup [v])).push (PySem.HandSPX.excO C hp.objs.size), g, dr, tk, os⟩) T F B I (X.keeps k) (hlim.keeps k) at1 ?_ fun h' tk' dx ⟨k', hx, dn, dne, hns⟩ => ?_
  · show A.depth + 1 < recursionLimit
    exact hroom
  · have old : ∀ b o, hp.get? b = some o → h'.get? b = some o := fun b o e => k' b o (Nat.ne_of_lt (Nat.lt_succ_of_lt (Heap.lt_size e))) (k b o e)
    have z : hp.objs.size + 1 + 1 ≤ dx := by
      have y := dn
      rw [Heap.size_push, Heap.size_push] at y
      exact y
    exact ⟨rfl, hq h' tk' (hp.objs.size + 1) dx ⟨old, Nat.le_succ _, ⟨_, _, hx, rfl, rfl, rfl, rfl⟩, Nat.le_trans (Nat.le_trans (Nat.le_succ _) (Nat.le_succ _)) z, dne, hns⟩⟩
end
theorem relO_par {par : Str} {v : V} {v' : Value} (r : RelV v v') (f : Str) : RelO (List.lookup f [(par, v)]) (if f = par then some v' else none) := by
  by_cases e : f = par
  · subst e
    rw [if_pos rfl, List.lookup_cons, beq_self_eq_true]
    exact r
  · have b : (f == par) = false := by simpa using e
    rw [if_neg e, List.lookup_cons, b]
    trivial
section
variable {X : Cx} {C fI : Addr} {n par : Str} {F : FP} {W : WX} {Ta : TDE}
/-- X(e) -/
def tMk1 (C : Addr) (par : Str) (ta : TA) : L2.St → Hp → XK → Prop := fun σ H Q => ta σ H fun vs H1 => ∃ v, vs = [v] ∧ ∀ d, H1 d = none → Q (.ref C) (some d) (upd H1 d (.xd [(par, v)]))
theorem pmk_x1 {a : Expr} {ta : TA} {p pos : Pos} {k : Nat} {qual : Str} {params : Arguments} {body : List Stmt} {scope : Scope} {fd : FuncData} (T : ExF X.K X.mg n par C fI) (Fd : FunD X.K "__init__" qual params body scope [] [] fI fd) (B : Binds X.K fd ["self", par] []) (I0 : InitTx par body scope)
    (hr : Room k X.A) (ha : PA X [a] ta) (hg : Gl X n) (hdb : (n == ("__debug__" : Str)) = false := by decide) (he : starEach (a :: []) X.env = (false, eval a X.env) :: starEach [] X.env := by rfl) (hpl : (backTo pos (starEach [] X.env)).any (·.1) = false := by rfl) :
    PMk X (.Call (.Name n p) [a] [] pos) (tMk1 C par ta) := by
  intro pins s σ H Q I h
  refine wpAny_Call_Name_kw (ld_glob I hg T.g (PySem.W.callWith_K (h₀ := X.base) I.ok.mod.kin T.kC (thn (ha.run pos pins s σ H _ I h) fun us s1 hh => ?_) he hpl) hdb)
  obtain ⟨vs, H1, I1, r1, v, rfl, q1⟩ := hh
  refine ⟨I1.kIn, ?_⟩
  obtain ⟨v', rfl, rv⟩ := vals1 r1
  show wpAny _ _ (call (.ref C) [v']) _ _ _
  have hlim := I1.nolimit
  obtain ⟨hp, g, dr, tk, os⟩ := s1
  refine wpAny_call (xi_made T Fd B I0 I1.kIn hlim (by have := hr.dp; omega) fun h' tk' e d M => ?_)
  show MkP X pins σ Q (.ref e) ⟨h', g, dr, tk', os⟩
  obtain ⟨oe, fv, hoe, hc, hd, hdat, h1⟩ := M.obj
  have hns := M.ns
  obtain ⟨G', g1, g2⟩ := restrict h' fun b => decide (b ≠ e)
  have gk : ∀ b, b ≠ e → G'.get? b = h'.get? b := fun b hb => g1 b (decide_eq_true hb)
  have ge : G'.get? e = none := g2 e (by simp)
  have old : ∀ b o, hp.get? b = some o → G'.get? b = some o := fun b o q => (gk b (Nat.ne_of_lt (Nat.lt_of_lt_of_le (Heap.lt_size q) M.new))).trans (M.keep b o q)
  have ob : ObjOk X.prog X.w (upd H1 d (.xd [(par, v)])) G' d (.xd [(par, v)]) := ⟨_, hns.at (fun o q => (gk d M.dne).trans q), fun f => relO_par rv f⟩
  have J : Inv X pins σ (upd H1 d (.xd [(par, v)])) ⟨G', g, dr, tk', os⟩ := I1.laid (t' := tk') old M.dbig ob
  refine ⟨e, oe, fv, ⟨G', g, dr, tk', os⟩, _, .ref C, some d, rfl, J, fun b o q => ?_, ge, hoe, ⟨hc, hd⟩, hdat, h1, ?_, rfl, I1.bare, raises_own T.xf.exC T.tyC, q1 d (I1.hok.fresh M.dbig)⟩
  · by_cases hb : b = e
    · have q' : G'.get? b = some o := q
      rw [hb, ge] at q'
      cases q'
    · exact (gk b hb).symm.trans q
  · rw [upd_ne (Ne.symm M.dne)]
    exact I1.hok.fresh M.new
def dRaise1 (n par : Str) (Ta : TDE) : TDS := fun ξ _ env => Ta ξ env fun d => ξ ⟨n, [(par, d)]⟩ env
theorem ds_raise1 {a : Expr} {p pos pos2 : Pos} {k : Nat} {qual : Str} {params : Arguments} {body : List Stmt} {scope : Scope} {fd : FuncData} (hc : X.calm = true) (tk : Takes X W) (wo : WOk F W) (hK : F.K = X.K) (T : ExF X.K X.mg n par C fI) (Fd : FunD X.K "__init__" qual params body scope [] [] fI fd)
    (B : Binds X.K fd ["self", par] []) (I0 : InitTx par body scope) (hr : Room k X.A) (ha : PE X a (tD F Ta)) (hg : Gl X n) (hdb : (n == ("__debug__" : Str)) = false := by decide) (he : starEach (a :: []) X.env = (false, eval a X.env) :: starEach [] X.env := by rfl) (hpl : (backTo pos (starEach [] X.env)).any (·.1) = false := by rfl) :
    PS X (.Raise (some (.Call (.Name n p) [a] [] pos)) none pos2) (sD F (dRaise1 n par Ta)) :=
  PS.imp (ps_raise hc tk (pmk_x1 T Fd B I0 hr (pa_cons ha pa_nil he) hg hdb he hpl)) (by
  rintro De σ H ⟨N, env, Dd, f, hT, ok⟩
  refine ⟨N, env, _, f, hT, fun v H1 d e1 r q => ⟨v, rfl, fun dx hdx => ?_⟩⟩
  have f1 := f.ext' e1
  have f2 := f1.ext' (f1.n.lay (o := .xd [(par, v)]) hdx)
  refine wo N σ _ env ⟨n, [(par, d)]⟩ _ (some dx) f2 ⟨by rw [hK]; exact T.at_.symm, .inr ⟨dx, [v], rfl, f1.n.fresh hdx, upd_same, v, [], rfl, ?_, rfl⟩⟩ q
  exact r.ext (f1.n.lay hdx) f1.n.z)
end
end DL
set_option Elab.async false
set_option linter.all false
set_option maxRecDepth 100000
set_option maxHeartbeats 2000000
/-! try with any number of clauses, with and without a name -/
namespace DL
open PySem PySem.Spec L2
open PyProof.Rows hiding St
abbrev HTs := Addr → Value → Option Addr → TS
def atE : Option Nat → Ends → Ends
  | none, D => D
  | some i, D => { nx := fun σ H => D.nx (σ.set i none) H, rt := D.rt, bk := fun σ H => D.bk (σ.set i none) H, ct := fun σ H => D.ct (σ.set i none) H }
def putE : Option Nat → Addr → L2.St → L2.St
  | none, _, σ => σ
  | some i, a, σ => σ.set i (some (.ref a))
/-- the clauses' wish, one behind the other -/
def wNs (K : PySem.W.Frag) (Wout : WX) (D : Ends) : List (Value × Option Nat × HTs) → WX
  | [] => Wout
  | (c, o, ts) :: r => fun cls d σ H => ∃ b, PySem.W.exmOne K cls c = some b ∧ (b = true → ∀ a, H a = none → ts a cls d (atE o D) (putE o a σ) H) ∧ (b = false → wNs K Wout D r cls d σ H)
abbrev SuiteOk (X : Cx) (sts : List Stmt) (ts : HTs) : Prop := ∀ (a : Addr) (oe : Obj) (cls : Value) (d : Option Addr) (pn : List (Addr × Obj)), Zc cls d oe → (∃ vs, oe.data = .fields vs) → PSs (X.suite a ((a, oe) :: pn)) sts (ts a cls d)
inductive HdsN (X : Cx) : List ExceptHandler → List (Value × Option Nat × HTs) → Prop
  | nil : HdsN X [] []
  | one {x : Str} {c : Value} {ts : HTs} {b₀ : Stmt} {suite : List Stmt} {np pos' : Pos} {hds : List ExceptHandler} {l : List (Value × Option Nat × HTs)} (hc : Names X x c) (hsu : SuiteOk X (b₀ :: suite) ts) (r : HdsN X hds l) :
      HdsN X (.ExceptHandler (some (.Name x np)) none (b₀ :: suite) pos' :: hds) ((c, none, ts) :: l)
  | named {x n : Str} {i : Nat} {c : Value} {ts : HTs} {b₀ : Stmt} {suite : List Stmt} {np pos' : Pos} {hds : List ExceptHandler} {l : List (Value × Option Nat × HTs)} (hi : X.N[i]? = some n) (hln : X.env.kindOf n = some .local) (hc : Names X x c) (hsu : SuiteOk X (b₀ :: suite) ts) (r : HdsN X hds l) :
      HdsN X (.ExceptHandler (some (.Name x np)) (some n) (b₀ :: suite) pos' :: hds) ((c, some i, ts) :: l)
section
variable {X : Cx} {body : List Stmt} {h₀ : ExceptHandler} {hds : List ExceptHandler} {l : List (Value × Option Nat × HTs)} {pos : Pos} {tb : WX → TS} {Wout : WX}
theorem not_frame {B h : Heap} {fr : List Env} {a : Addr} {o : Obj} {vs : Array Value} (ff : h.FunFrames B fr) (e : h.get? a = some o) (dd : o.data = .fields vs) : a ∉ frs fr := fun hm => by
  obtain ⟨_, o', e', hnf⟩ := ff.mem hm
  rw [e] at e'
  cases e'
  exact hnf _ dd
theorem ps_try_nm (hs : X.stack = X.env :: X.outer) (hf : X.env.frame = some X.env.locals) (hN : X.N.Nodup) (tk : Takes X Wout)
    (hb : ∀ (W : WX) (pn : List (Addr × Obj)) (xe : Value → Shared → Prop), Takes (X.tr pn xe) W → PassesOwn (model X.prog X.w) X.A X.env xe → PSs (X.tr pn xe) body (tb W))
    (hh : HdsN X (h₀ :: hds) l) : PS X (.Try body (h₀ :: hds) [] [] pos) (fun D σ H => tb (wNs X.K Wout D l) D σ H) := by
  refine ⟨fun pins s σ H D I h => ?_⟩
  have ok := I.ok
  have hfr : X.A.frames = some (X.env :: X.outer) := by rw [ok.frames, hs]
  have body_ := hb (wNs X.K Wout D l) (X.pn ++ pins) (fun e s₁ => wpAny (model X.prog X.w) X.A (noteFrame e X.env) (fun _ s₂ => wpAny (model X.prog X.w) X.A (setFlight e none) (fun _ s₃ =>
    wpAny (model X.prog X.w) X.A (handleBy e X.env (h₀ :: hds)) (SP X pins D) X.xe s₃) X.xe s₂) X.xe s₁)
  refine wpAny_Try_except (wpAny_mono ((body_ (fun u s' xx => ?_) PassesOwn.looking).run [] s σ H D (I.toTry _) h) (fun f s1 hsp => ?_) (fun e s1 he => he))
  · obtain ⟨a, B, sI, pins', σ', H', cls, d, rfl, J', nb, up, sky, na, os, ag, w⟩ := xx
    have J : Inv X pins σ' H' sI := J'.ofTry ok
    rw [show (X.tr (X.pn ++ pins) _).stack = X.env :: X.outer from hs] at sky
    show wpAny (model X.prog X.w) X.A (noteFrame (.ref a) X.env) _ _ _
    refine Sky.land Zc.steady hfr hf sky fun h3 fl3 up3 => ?_
    have J3 : Inv X pins σ' H' { s' with heap := h3 } := J.landed nb fl3.1 (up.trans up3) os ag
    have zc : ∀ o, Zc cls d o → o.cls = cls := fun o z => z.1
    obtain ⟨oe3, vs3, he3, hz3, hd3⟩ := fl3.there
    have nfr := not_frame fl3.2.2.1 he3 hd3
    have nL : a ≠ X.env.locals := fun z => nfr (List.mem_filterMap.mpr ⟨X.env, List.mem_cons_self, by rw [hf, z]⟩)
    have nF : a ∉ X.fs := fun hm => let ⟨e, he, q⟩ := List.mem_filterMap.mp hm; nfr (List.mem_filterMap.mpr ⟨e, List.mem_cons_of_mem _ he, q⟩)
    have S3 := J3.suite he3 hd3 na nL nF
    have test : ∀ {x : Str} {c : Value} {np : Pos}, Names X x c → ∀ {Q : Value → Shared → Prop} {E : Value → Shared → Prop}, Q c { s' with heap := h3 } → wpAny (model X.prog X.w) (X.A.mark (some (.ref a))) (eval (.Name x np) X.env) Q E { s' with heap := h3 } := fun {x c np} hc {Q E} q => by
      obtain ⟨hg, hdbg, hm | ⟨hm, hv, hnn⟩⟩ := hc
      · exact ld_glob S3 hg hm q hdbg
      · exact ld_blt S3 hg hm hv q hnn hdbg
    have suite_ : ∀ {h4 : Heap}, HandSPX.FlyingZ B (X.env :: X.outer) a (Zc cls d) h4 → h3.UpToSlots h4 → ∃ oe4, Zc cls d oe4 ∧ (∃ vs, oe4.data = .fields vs) ∧ Inv (X.suite a ((a, oe4) :: (X.pn ++ pins))) [] σ' H' { s' with heap := h4 } := fun {h4} fl4 up4 => by
      have J4 : Inv X pins σ' H' { s' with heap := h4 } := J.landed nb fl4.1 ((up.trans up3).trans up4) os ag
      obtain ⟨oe4, vs4, he4, hz4, hd4⟩ := fl4.there
      exact ⟨oe4, hz4, ⟨_, hd4⟩, J4.suite he4 hd4 na nL nF⟩
    have go : ∀ {hds' : List ExceptHandler} {l' : List (Value × Option Nat × HTs)}, HdsN X hds' l' → wNs X.K Wout D l' cls d σ' H' →
        wpAny (model X.prog X.w) X.A (handleBy (.ref a) X.env hds') (SP X pins D) X.xe { s' with heap := h3 } := by
      intro hds' l' hk
      induction hk with
      | nil => exact fun w => PX.no_clauseZ (Z := Zc cls d) (B := B) (outer := X.outer) hf fl3 fun h4 hh4 up4 => tk _ _ ⟨a, B, sI, pins, σ', H', cls, d, rfl, J, nb, (up.trans up3).trans up4, .inr (.inr (by rw [hs]; exact hh4)), na, os, ag, w⟩
      | @one x c ts b₀ suite np pos' hds2 l2 hc hsu r ih =>
        rintro ⟨b, hb1, hyes, hno⟩
        cases b with
        | false => exact PX.clause_passZ (Z := Zc cls d) (B := B) (outer := X.outer) J3.kIn zc fl3 hb1 (test hc) (ih (hno rfl))
        | true =>
          refine PX.clause_onlyZ (Z := Zc cls d) (B := B) (outer := X.outer) J3.kIn zc fl3 hb1 (test hc) fun h4 fl4 up4 => ?_
          obtain ⟨oe4, hz4, hd4, S4⟩ := suite_ fl4 up4
          refine wpAny_mono ((hsu a oe4 cls d (X.pn ++ pins) hz4 hd4).run [] _ _ H' _ S4 (hyes rfl a na)) (fun f s6 hsp => ?_) (fun _ _ z => z.elim)
          cases f with
          | next => exact let ⟨σ6, H6, S6, q6⟩ := hsp; ⟨_, _, S6.unsuite ok, q6⟩
          | brk => exact let ⟨σ6, H6, S6, q6⟩ := hsp; ⟨_, _, S6.unsuite ok, q6⟩
          | cont => exact let ⟨σ6, H6, S6, q6⟩ := hsp; ⟨_, _, S6.unsuite ok, q6⟩
          | ret u => exact let ⟨v6, σ6, H6, S6, r6, q6⟩ := hsp; ⟨_, _, _, S6.unsuite ok, r6, q6⟩
      | @named x n i c ts b₀ suite np pos' hds2 l2 hi hln hc hsu r ih =>
        rintro ⟨b, hb1, hyes, hno⟩
        cases b with
        | false => exact PX.clause_passZ (Z := Zc cls d) (B := B) (outer := X.outer) J3.kIn zc fl3 hb1 (test hc) (ih (hno rfl))
        | true =>
          refine PX.clause_asZ (Z := Zc cls d) (B := B) (outer := X.outer) J3.kIn zc fl3 hb1 (test hc) fun h4 fl4 up4 => ?_
          obtain ⟨oe4, hz4, hd4, S4⟩ := suite_ fl4 up4
          refine store_ok (X := X.suite a ((a, oe4) :: (X.pn ++ pins))) (v := .ref a) S4 hN hi (.inl hln) rfl (fun s5 S5 => ?_) (.inr hln)
          refine wpAny_mono ((hsu a oe4 cls d (X.pn ++ pins) hz4 hd4).run [] s5 _ H' _ S5 (hyes rfl a na)) (fun f s6 hsp => ?_) (fun _ _ z => z.elim)
          cases f with
          | next => exact let ⟨σ6, H6, S6, q6⟩ := hsp; gone_ok (S6.unsuite ok) hN hi hln fun s7 J7 => ⟨_, _, J7, q6⟩
          | brk => exact let ⟨σ6, H6, S6, q6⟩ := hsp; gone_ok (S6.unsuite ok) hN hi hln fun s7 J7 => ⟨_, _, J7, q6⟩
          | cont => exact let ⟨σ6, H6, S6, q6⟩ := hsp; gone_ok (S6.unsuite ok) hN hi hln fun s7 J7 => ⟨_, _, J7, q6⟩
          | ret u => exact let ⟨v6, σ6, H6, S6, r6, q6⟩ := hsp; gone_ok (S6.unsuite ok) hN hi hln fun s7 J7 => ⟨_, _, _, J7, r6, q6⟩
    exact go hh w
  · cases f with
    | next => exact let ⟨σ', H', K', q⟩ := hsp; wpAny_execs_nil ⟨σ', H', K'.ofTry ok, q⟩
    | brk => exact let ⟨σ', H', K', q⟩ := hsp; ⟨σ', H', K'.ofTry ok, q⟩
    | cont => exact let ⟨σ', H', K', q⟩ := hsp; ⟨σ', H', K'.ofTry ok, q⟩
    | ret u => exact let ⟨v, σ', H', K', r, q⟩ := hsp; ⟨v, σ', H', K'.ofTry ok, r, q⟩
end
end DL
set_option Elab.async false
set_option linter.all false
set_option maxRecDepth 100000
set_option maxHeartbeats 2000000
/-! try over data: clauses with names; e.f, isinstance(e, C) in a clause -/
namespace DL
open PySem PySem.Spec L2
open PyProof.Rows hiding St
structure Cl where
  m : Str → Option Bool
  i : Option Nat
  h : Addr → DX → TDS
def atD : Option Nat → DEnds → DEnds
  | none, D => D
  | some i, D => { nx := fun env => D.nx (env.set i .un), rt := D.rt, bk := fun env => D.bk (env.set i .un), ct := fun env => D.ct (env.set i .un) }
def putD : Option Nat → Addr → SE → SE
  | none, _, env => env
  | some i, a, env => env.set i (.raw (.ref a))
def wDs (ξ : XW) (De : DEnds) : List Cl → DX → SE → Prop
  | [], x, env => ξ x env
  | c :: r, x, env => match c.m x.cls with
    | some true => ∀ a, c.h a x (fun _ _ => False) (atD c.i De) (putD c.i a env)
    | some false => wDs ξ De r x env
    | none => False
def dTryN (cs : List Cl) (body : TDS) : TDS := fun ξ De env => body (fun x env' => wDs ξ De cs x env') De env
theorem FOk.raw {F : FP} {N : Addr → Prop} {σ : L2.St} {H : Hp} {env : SE} (f : FOk F N σ H env) (i : Nat) (v : V) : FOk F N (σ.set i (some v)) H (env.set i (.raw v)) where
  n := f.n
  len := by rw [List.length_set, List.length_set]; exact f.len
  slot := fun j s h => by
    by_cases hj : i = j
    · subst hj
      have hl : i < env.length := by
        have := (List.getElem?_eq_some_iff.mp h).1
        rwa [List.length_set] at this
      rw [List.getElem?_set_self hl] at h
      cases h
      show (σ.set i (some v))[i]? = some (some v)
      rw [List.getElem?_set_self (by rw [f.len]; exact hl)]
    · rw [List.getElem?_set_ne hj] at h
      rw [List.getElem?_set_ne hj]
      exact f.slot j s h
  apart := fun j k p xs ys hjk h1 h2 h3 h4 => by
    have o : ∀ {j : Nat} {xs : List D}, (env.set i (.raw v))[j]? = some (.own xs) → i ≠ j ∧ env[j]? = some (.own xs) := fun {j xs} h => by
      by_cases hj : i = j
      · subst hj
        have hl : i < env.length := by
          have := (List.getElem?_eq_some_iff.mp h).1
          rwa [List.length_set] at this
        rw [List.getElem?_set_self hl] at h
        cases h
      · rw [List.getElem?_set_ne hj] at h
        exact ⟨hj, h⟩
    obtain ⟨n1, h1⟩ := o h1
    obtain ⟨n2, h2⟩ := o h2
    rw [List.getElem?_set_ne n1] at h3
    rw [List.getElem?_set_ne n2] at h4
    exact f.apart j k p xs ys hjk h1 h2 h3 h4
theorem FOk.put {F : FP} {N : Addr → Prop} {σ : L2.St} {H : Hp} {env : SE} (f : FOk F N σ H env) (o : Option Nat) (a : Addr) : FOk F N (putE o a σ) H (putD o a env) := by
  cases o with
  | none => exact f
  | some i => exact f.raw i _
theorem EndsOk.at {F : FP} {N : Addr → Prop} {H : Hp} {Dd : DEnds} {De : Ends} (ok : EndsOk F N H Dd De) (o : Option Nat) : EndsOk F N H (atD o Dd) (atE o De) := by
  cases o with
  | none => exact ok
  | some i => exact ⟨fun N' σ H' env f ev q => ok.nx N' _ H' _ (f.un i) ev q, ok.rt, fun N' σ H' env f ev q => ok.bk N' _ H' _ (f.un i) ev q, fun N' σ H' env f ev q => ok.ct N' _ H' _ (f.un i) ev q⟩
theorem EndsOk.rebase {F : FP} {N : Addr → Prop} {H : Hp} {Dd : DEnds} {De : Ends} {ex : XW} (ok : EndsOk F N H Dd De) (g : Evo F.N1 F.H1 N H) : EndsOk { F with ex := ex, N1 := N, H1 := H } N H Dd De :=
  ⟨fun N' σ H' env f ev q => ok.nx N' σ H' env (f.back g) ev q, ok.rt, fun N' σ H' env f ev q => ok.bk N' σ H' env (f.back g) ev q, fun N' σ H' env f ev q => ok.ct N' σ H' env (f.back g) ev q⟩
/-- what a suite may lean on -/
structure SuiteF (F : FP) (c : Cl) (cls : Value) (d : Option Addr) (y : DX) (F' : FP) : Prop where
  k : F'.K = F.K
  z : F'.Z = F.Z
  ex : F'.ex = fun _ _ => False
  xr : XRep F'.K F'.Z F'.N1 F'.H1 y cls d
  m : c.m y.cls = some true
abbrev tsD (F : FP) (c : Cl) : HTs := fun a cls d De σ H => ∃ (y : DX) (F' : FP), SuiteF F c cls d y F' ∧ sD F' (c.h a y) De σ H
abbrev SuiteD (X : Cx) (F : FP) (sts : List Stmt) (c : Cl) : Prop := ∀ (a : Addr) (oe : Obj) (cls : Value) (d : Option Addr) (pn : List (Addr × Obj)) (y : DX) (F' : FP), Zc cls d oe → (∃ vs, oe.data = .fields vs) → SuiteF F c cls d y F' → PSs (X.suite a ((a, oe) :: pn)) sts (sD F' (c.h a y))
theorem suite_d {X : Cx} {F : FP} {sts : List Stmt} {c : Cl} (h : SuiteD X F sts c) : SuiteOk X sts (tsD F c) := fun a oe cls d pn hz hv =>
  PSs.exP fun y => PSs.exP fun F' => PSs.andP fun s => h a oe cls d pn y F' hz hv s
/-- the clauses below and over data -/
inductive HdD (X : Cx) (F : FP) : List ExceptHandler → List (Value × Option Nat × HTs) → List Cl → Prop
  | nil : HdD X F [] [] []
  | one {x : Str} {c : Value} {cl : Cl} {b₀ : Stmt} {suite : List Stmt} {np pos' : Pos} {hds : List ExceptHandler} {l : List (Value × Option Nat × HTs)} {cs : List Cl} (hc : Names X x c) (hi : cl.i = none) (hm : ∀ n b, cl.m n = some b → PySem.W.exmOne X.K (clsAt X.K n) c = some b)
      (hsu : SuiteD X F (b₀ :: suite) cl) (r : HdD X F hds l cs) : HdD X F (.ExceptHandler (some (.Name x np)) none (b₀ :: suite) pos' :: hds) ((c, none, tsD F cl) :: l) (cl :: cs)
  | named {x n : Str} {i : Nat} {c : Value} {cl : Cl} {b₀ : Stmt} {suite : List Stmt} {np pos' : Pos} {hds : List ExceptHandler} {l : List (Value × Option Nat × HTs)} {cs : List Cl} (hn : X.N[i]? = some n) (hln : X.env.kindOf n = some .local) (hc : Names X x c) (hi : cl.i = some i)
      (hm : ∀ n b, cl.m n = some b → PySem.W.exmOne X.K (clsAt X.K n) c = some b) (hsu : SuiteD X F (b₀ :: suite) cl) (r : HdD X F hds l cs) : HdD X F (.ExceptHandler (some (.Name x np)) (some n) (b₀ :: suite) pos' :: hds) ((c, some i, tsD F cl) :: l) (cl :: cs)
theorem HdD.nm {X : Cx} {F : FP} {hds : List ExceptHandler} {l : List (Value × Option Nat × HTs)} {cs : List Cl} (h : HdD X F hds l cs) : HdsN X hds l := by
  induction h with
  | nil => exact .nil
  | one hc hi hm hsu r ih => exact .one hc (suite_d hsu) ih
  | named hn hln hc hi hm hsu r ih => exact .named hn hln hc (suite_d hsu) ih
theorem HdD.wish {X : Cx} {F : FP} {W : WX} {hds : List ExceptHandler} {l : List (Value × Option Nat × HTs)} {cs : List Cl} (h : HdD X F hds l cs) (hK : F.K = X.K) (wo : WOk F W) {N : Addr → Prop} {σ : L2.St} {H : Hp} {env : SE} {y : DX} {cls : Value} {d : Option Addr} {Dd : DEnds} {De : Ends}
    (f : FOk F N σ H env) (xr : XRep F.K F.Z N H y cls d) (ok : EndsOk F N H Dd De) (hw : wDs F.ex Dd cs y env) : wNs X.K W De l cls d σ H := by
  have step : ∀ (cl : Cl), cl.m y.cls = some true → (∀ a, cl.h a y (fun _ _ => False) (atD cl.i Dd) (putD cl.i a env)) → ∀ a, tsD F cl a cls d (atE cl.i De) (putE cl.i a σ) H := fun cl m hh a =>
    ⟨y, { F with ex := fun _ _ => False, N1 := N, H1 := H }, ⟨rfl, rfl, rfl, xr, m⟩, N, putD cl.i a env, atD cl.i Dd, (f.rebase _).put cl.i a, hh a, (ok.rebase f.n.gr).at cl.i⟩
  induction h with
  | nil => exact wo N σ H env y cls d f xr hw
  | @one x c cl b₀ suite np pos' hds l cs hc hi hm hsu r ih =>
    unfold wDs at hw
    split at hw
    · rename_i m
      refine ⟨true, by rw [xr.1, hK]; exact hm _ _ m, fun _ a _ => ?_, fun z => Bool.noConfusion z⟩
      have := step cl m hw a
      rw [hi] at this
      exact this
    · rename_i m
      exact ⟨false, (by rw [xr.1, hK]; exact hm _ _ m), (fun z => Bool.noConfusion z), fun _ => ih hw⟩
    · exact hw.elim
  | @named x n i c cl b₀ suite np pos' hds l cs hn hln hc hi hm hsu r ih =>
    unfold wDs at hw
    split at hw
    · rename_i m
      refine ⟨true, by rw [xr.1, hK]; exact hm _ _ m, fun _ a _ => ?_, fun z => Bool.noConfusion z⟩
      have := step cl m hw a
      rw [hi] at this
      exact this
    · rename_i m
      exact ⟨false, (by rw [xr.1, hK]; exact hm _ _ m), (fun z => Bool.noConfusion z), fun _ => ih hw⟩
    · exact hw.elim
/-- a frame within a frame: of the same things -/
structure Sub (F F' : FP) : Prop where
  k : F'.K = F.K
  z : F'.Z = F.Z
  b : F'.B = F.B
  h : F'.H0 = F.H0
  g : Evo F.N1 F.H1 F'.N1 F'.H1
section
variable {X : Cx} {F : FP} {W : WX}
theorem ds_tryN {body : List Stmt} {h₀ : ExceptHandler} {hds : List ExceptHandler} {l : List (Value × Option Nat × HTs)} {cs : List Cl} {pos : Pos} {Tb : TDS} (hK : F.K = X.K) (hs : X.stack = X.env :: X.outer) (hf : X.env.frame = some X.env.locals) (hN : X.N.Nodup) (tk : Takes X W) (wo : WOk F W)
    (hb : ∀ (W : WX) (pn : List (Addr × Obj)) (xe : Value → Shared → Prop) (F' : FP), Takes (X.tr pn xe) W → PassesOwn (model X.prog X.w) X.A X.env xe → Sub F F' → WOk F' W → PSs (X.tr pn xe) body (sD F' Tb))
    (hh : HdD X F (h₀ :: hds) l cs) : PS X (.Try body (h₀ :: hds) [] [] pos) (sD F (dTryN cs Tb)) := by
  refine PS.imp (ps_try_nm (tb := fun W De σ H => ∃ F' : FP, (Sub F F' ∧ WOk F' W) ∧ sD F' Tb De σ H) hs hf hN tk (fun W pn xe t1 p1 => PSs.exP fun F' => PSs.andP fun h => hb W pn xe F' t1 p1 h.1 h.2) hh.nm) ?_
  rintro De σ H ⟨N, env, Dd, f, hT, ok⟩
  have g := f.n.gr
  refine ⟨{ F with ex := fun x env' => wDs F.ex Dd cs x env', N1 := N, H1 := H }, ⟨⟨rfl, rfl, rfl, rfl, g⟩, ?_⟩, N, env, Dd, f.rebase _, hT, ok.rebase g⟩
  intro N' σ' H' env' y cls od f' xr hx
  exact hh.wish hK wo (f'.back g) xr (ok.of f'.n.gr) hx
/-! ### in a suite: e.f -/
def dXf (a : Addr) (y : DX) (i : Nat) (f : Str) : TDE := fun _ env Q => env[i]? = some (.raw (.ref a)) ∧ match y.fs.lookup f with
  | some d => Q d
  | none => False
theorem zip_lookup {K : PySem.W.Frag} {Z : Zn} {N : Addr → Prop} {H : Hp} {f : Str} {d : D} : ∀ {fs : List (Str × D)} {vs : List V}, Reps K Z N H (fs.map (·.2)) vs → fs.lookup f = some d → ∃ v, ((fs.map (·.1)).zip vs).lookup f = some v ∧ Rep K Z N H d v
  | [], _, _, e => by cases e
  | (g, x) :: fs, _, ⟨v, r, rfl, h1, h2⟩, e => by
    rw [List.lookup_cons] at e
    rw [List.map_cons, List.zip_cons_cons, List.lookup_cons]
    cases q : (f == g) with
    | true =>
      rw [q] at e
      cases e
      exact ⟨v, rfl, h1⟩
    | false =>
      rw [q] at e
      exact zip_lookup h2 e
theorem xr_at {F : FP} {N : Addr → Prop} {σ : L2.St} {H : Hp} {env : SE} {y : DX} {cls : Value} {d : Option Addr} (f : FOk F N σ H env) (xr : XRep F.K F.Z F.N1 F.H1 y cls d) : XRep F.K F.Z N H y cls d := by
  obtain ⟨h1, h2 | ⟨dd, vs, e, n, h3, h4⟩⟩ := xr
  · exact ⟨h1, .inl h2⟩
  · obtain ⟨h5, n5⟩ := f.n.gr dd _ n kp_xd h3
    exact ⟨h1, .inr ⟨dd, vs, e, n5, h5, Reps.mono f.n.gr _ _ h4⟩⟩
variable {a : Addr} {oe : Obj} {cls : Value} {d : Option Addr} {pn : List (Addr × Obj)} {y : DX} {i : Nat} {x : Str} {p pos : Pos} {F' : FP} {c : Cl}
theorem d_xf {fl : Str} (hK : F.K = X.K) (S : SuiteF F c cls d y F') (hz : Zc cls d oe) (hv : ∃ vs, oe.data = .fields vs) (hX : ∃ C, clsAt X.K y.cls = .ref C ∧ XfC X.K C ∧ PySem.W.findIn X.K (.ref C) fl = some none) (he : PE (X.suite a ((a, oe) :: pn)) (.Name x p) (tVar i))
    (hb : attributeBase (.Name x p) fl X.env (eval (.Name x p) X.env) = eval (.Name x p) X.env := by rfl) : PE (X.suite a ((a, oe) :: pn)) (.Attribute (.Name x p) fl pos) (tD F' (dXf a y i fl)) := by
  obtain ⟨C, hC, T, hno⟩ := hX
  refine PE.imp (pe_xf T hno hz hv he hb) ?_
  rintro σ H Q ⟨N, env, Qd, f, ⟨h1, h2⟩, k⟩
  have e := f.slot i _ h1
  obtain ⟨q1, q2⟩ := xr_at f S.xr
  have hc : cls = .ref C := by rw [q1, S.k, hK]; exact hC
  refine ⟨.ref a, e, rfl, hc, ?_⟩
  split at h2
  · rename_i dv hl
    rcases q2 with ⟨q3, _⟩ | ⟨dd, vs, e1, n, h3, h4⟩
    · rw [q3] at hl
      cases hl
    · obtain ⟨v, l1, l2⟩ := zip_lookup h4 hl
      exact ⟨dd, _, v, e1, h3, l1, k v H dv Ext.refl l2 h2⟩
  · exact h2.elim
/-! ### isinstance(e, C) -/
structure ExIs (K : PySem.W.Frag) (C : Addr) : Prop where
  xf : XfC K C
  hcl : (PySem.W.clsIn K C).isSome = true
  ha : PySem.W.findIn K (.ref C) "__class__" = some (some (.builtin "object.__class__"))
  hn : PySem.W.specialIn K (.builtin "object.__class__") "__get__" = some (some (.builtin "getset_descriptor.__get__"))
  ht : PySem.W.takesIn K (.builtin "object.__class__") = some true
  hm : PySem.W.mroIn K C (.type "object") = some true
def dIsX (a : Addr) (y : DX) (i : Nat) (tb : Str → Option Bool) : TDE := fun _ env Q => env[i]? = some (.raw (.ref a)) ∧ match tb y.cls with
  | some b => Q (.bl b)
  | none => False
def rIsX (K : PySem.W.Frag) (D a : Addr) (d : Option Addr) : List V → Hp → VK → Prop := fun xs H Q => (∀ dd, d = some dd → ∃ fs, H dd = some (.xd fs)) ∧ ∃ (cv : Addr) (b : Bool), xs = [.ref a, .ref cv] ∧ PySem.W.kitOne K (.ref D) (.ref cv) = some b ∧ Q (.bl b) H
theorem cr_isX {D : Addr} (C : ExIs X.K D) (hz : Zc (.ref D) d oe) (hv : ∃ vs, oe.data = .fields vs) : CallR (X.suite a ((a, oe) :: pn)) (.builtin "isinstance") (rIsX X.K D a d) := by
  intro pins s σ H xs us Q I r h
  obtain ⟨hd, cv, b, rfl, e, q⟩ := h
  obtain ⟨u1, r1, rfl, hu1, r2⟩ : ∃ u1 r1, us = u1 :: r1 ∧ RelV (.ref a) u1 ∧ Vals [.ref cv] r1 := by
    cases r with
    | cons ra rb => exact ⟨_, _, rfl, ra, rb⟩
  obtain ⟨u2, rfl, hu2⟩ := vals1 r2
  obtain rfl : u1 = .ref a := hu1
  obtain rfl : u2 = .ref cv := hu2
  obtain ⟨hget, _⟩ := I.pin (a, oe) (List.mem_append.mpr (.inl List.mem_cons_self))
  obtain ⟨vs, hdat⟩ := hv
  obtain ⟨od, J⟩ : ∃ od, PySem.W.InstAt s.heap a oe D od := by
    have nc : PySem.W.notCls oe = true := by
      unfold PySem.W.notCls
      rw [hdat] <;> rfl
    cases d with
    | none => exact ⟨none, hget, hz.1, nc, by rw [hz.2]; trivial⟩
    | some dd =>
      obtain ⟨fs, hx⟩ := hd dd rfl
      obtain ⟨mA, ⟨o, es, ep, ho, hr⟩, _⟩ : ObjOk X.prog X.w H s.heap dd (.xd fs) := I.hok dd _ hx
      exact ⟨some o, hget, hz.1, nc, by rw [hz.2]; exact ho⟩
  exact PySem.W.kia_one (PySem.W.kitx_exc C.hcl C.xf.ga C.xf.gg C.xf.exC C.ha C.hn C.ht C.hm) I.kIn J e (fun z => nomatch z) fun tk => ⟨.bl b, H, I.kept (t' := tk) fun _ _ z => z, rfl, q⟩
theorem d_isX {C2 : Addr} {m : Str} {p1 p2 : Pos} {tb : Str → Option Bool} (hK : F.K = X.K) (S : SuiteF F c cls d y F') (hz : Zc cls d oe) (hv : ∃ vs, oe.data = .fields vs) (hX : ∃ C, clsAt X.K y.cls = .ref C ∧ ExIs X.K C) (he : PE (X.suite a ((a, oe) :: pn)) (.Name x p) (tVar i))
    (ht : ∀ b, tb y.cls = some b → PySem.W.kitOne X.K (clsAt X.K y.cls) (.ref C2) = some b) (hg : Gl X "isinstance") (hm : X.mg "isinstance" = none) (hg2 : Gl X m) (hm2 : X.mg m = some (.ref C2)) (hd2 : (m == ("__debug__" : Str)) = false := by decide)
    (hs1 : starEach [.Name x p, .Name m p2] X.env = (false, eval (.Name x p) X.env) :: starEach [.Name m p2] X.env := by rfl) (hs2 : starEach [.Name m p2] X.env = (false, eval (.Name m p2) X.env) :: starEach [] X.env := by rfl) (hpl : (backTo pos (starEach [.Name m p2] X.env)).any (·.1) = false := by rfl) :
    PE (X.suite a ((a, oe) :: pn)) (.Call (.Name "isinstance" p1) [.Name x p, .Name m p2] [] pos) (tD F' (dIsX a y i tb)) := by
  obtain ⟨C, hC, T⟩ := hX
  have hc : cls = .ref C := by
    rw [S.xr.1, S.k, hK]
    exact hC
  subst hc
  refine PE.imp (pe_callB (cr_isX T hz hv) hg hm (by decide +kernel) (pa_cons he (pa_cons (pe_glob (v := .ref C2) hg2 hm2 rfl hd2) pa_nil hs2) hs1) (by decide) (by decide) hs1 hpl) ?_
  rintro σ H Q ⟨N, env, Qd, f, ⟨h1, h2⟩, k⟩
  have e := f.slot i _ h1
  obtain ⟨q1, q2⟩ := xr_at f S.xr
  split at h2
  · rename_i b hb
    refine ⟨.ref a, e, ?_, C2, b, rfl, by rw [← hC]; exact ht b hb, k _ H _ Ext.refl rep_bl h2⟩
    intro dd e1
    rcases q2 with ⟨_, q3⟩ | ⟨d2, vs, e2, n, h3, h4⟩
    · rw [q3] at e1
      cases e1
    · rw [e2] at e1
      cases e1
      exact ⟨_, h3⟩
  · exact h2.elim
end
end DL
set_option Elab.async false
set_option linter.all false
set_option maxRecDepth 100000
set_option maxHeartbeats 2000000
/-! slices, in, ^, chains, sum, tuple(..), list(..), str(..), min, max over data -/
namespace DL
open PySem PySem.Spec L2
open PyProof.Rows hiding St
section
variable {X : Cx} {F : FP} {a b c e : Expr} {es : List Expr} {pos p : Pos} {Ta Tb Tc : TDE} {Tas : TDA}
/-! ### slices -/
def cutD {α : Type} (xs : List α) (lo hi : Option Int) : List α := (xs.drop (HT.sIx xs.length 0 lo)).take (HT.sIx xs.length xs.length hi - HT.sIx xs.length 0 lo)
abbrev TDO := XW → SE → (Option Int → Prop) → Prop
def dNoPart : TDO := fun _ _ Q => Q none
def dPart (T : TDE) : TDO := fun ξ env Q => T ξ env fun d => match d with
  | .int i => Q (some i)
  | _ => False
def tDO (F : FP) (T : TDO) : TO := fun σ H Q => ∃ N env Qd, FOk F N σ H env ∧ T F.ex env Qd ∧ ∀ o H', Ext F.Z H H' → Qd o → Q o H'
theorem PO.imp {lo : Option Expr} {t t' : TO} (h : PO X lo t) (hi : ∀ σ H Q, t' σ H Q → t σ H Q) : PO X lo t' := ⟨fun pins s σ H Q I hw => h.run pins s σ H Q I (hi _ _ _ hw)⟩
theorem do_none : PO X none (tDO F dNoPart) := PO.imp po_none (by
  rintro σ H Q ⟨N, env, Qd, f, hT, k⟩
  exact k none H Ext.refl hT)
theorem do_some (h : PE X e (tD F Ta)) : PO X (some e) (tDO F (dPart Ta)) := PO.imp (po_some h) (by
  rintro σ H Q ⟨N, env, Qd, f, hT, k⟩
  refine ⟨N, env, _, f, hT, fun v H1 d e1 r q => ?_⟩
  cases d <;> first | exact q.elim | exact ⟨_, r, k _ _ e1 q⟩)
def gSl (x : D) (lo hi : Option Int) (Q : D → Prop) : Prop := match x with
  | .tup ds => Q (.tup (cutD ds lo hi))
  | .lst ds => Q (.lst (cutD ds lo hi))
  | _ => False
def dSl (T : TDE) (l h : TDO) : TDE := fun ξ env Q => T ξ env fun x => l ξ env fun lo => h ξ env fun hi => gSl x lo hi Q
theorem Reps.cut {K : PySem.W.Frag} {Z : Zn} {N : Addr → Prop} {H : Hp} {ds : List D} {vs : List V} (r : Reps K Z N H ds vs) (lo hi : Option Int) : Reps K Z N H (cutD ds lo hi) (cutV vs lo hi) := by
  unfold cutD cutV
  rw [r.length]
  exact (r.drop _).take _
theorem cut_whole {α : Type} {xs : List α} {lo hi : Option Int} (h : HT.sIx xs.length 0 lo = 0 ∧ HT.sIx xs.length xs.length hi = xs.length) : cutD xs lo hi = xs := by
  unfold cutD
  rw [h.1, h.2]
  simp
theorem d_slice {lo hi : Option Expr} {p2 : Pos} {l h : TDO} (hK : F.K = X.K) (he : PE X e (tD F Ta)) (hl : PO X lo (tDO F l)) (hu : PO X hi (tDO F h)) : PE X (.Subscript e (.Slice lo hi none p2) pos) (tD F (dSl Ta l h)) := PE.imp (pe_slice (SlR.or sl_tupA sl_list) he hl hu) (by
  rintro σ H Q ⟨N, env, Qd, f, hT, k⟩
  refine ⟨N, env, _, f, hT, fun x H1 d e1 r1 q1 => ⟨N, env, _, f.ext' e1, q1, fun lo H2 e2 q2 => ⟨N, env, _, (f.ext' e1).ext' e2, q2, fun hi H3 e3 q3 => ?_⟩⟩⟩
  have f3 := ((f.ext' e1).ext' e2).ext' e3
  have r3 := r1.ext (e2.trans e3) f.n.z
  have e := (e1.trans e2).trans e3
  cases d <;> first | exact q3.elim | skip
  · rename_i ds
    have r4 := r3
    obtain ⟨a, vs, rfl, ra, rs⟩ := r3
    refine .inl ⟨a, vs, rfl, by rw [← hK]; exact sqt_of ra, fun hw => ?_, fun hw p hp => ?_⟩
    · refine k _ H3 _ e r4 ?_
      rw [← rs.length] at hw
      rw [show gSl (.tup ds) lo hi Qd = Qd (.tup (cutD ds lo hi)) from rfl, cut_whole hw] at q3
      exact q3
    · exact k _ _ _ (e.trans (f3.n.lay hp)) (rep_newT f3.n hp (rs.cut lo hi)) q3
  · rename_i ds
    obtain ⟨a, vs, rfl, na, ra, rs⟩ := r3
    exact .inr ⟨a, vs, rfl, SqL.of ra, fun p hp => k _ _ _ (e.trans (f3.n.lay hp)) (rep_newL f3.n hp (rs.cut lo hi)) q3⟩)
/-! ### in -/
def vOf : D → Option V
  | .non => some .non
  | .bl b => some (.bl b)
  | .int i => some (.int i)
  | .str x => some (.str x)
  | _ => none
theorem vOf_rep {K : PySem.W.Frag} {Z : Zn} {N : Addr → Prop} {H : Hp} {d : D} {v w : V} (h : vOf d = some w) (r : Rep K Z N H d v) : v = w ∧ flatV w = true := by
  cases d <;> first | (cases h; done) | skip
  all_goals
    cases h
    exact ⟨r, rfl⟩
theorem vOfs_reps {K : PySem.W.Frag} {Z : Zn} {N : Addr → Prop} {H : Hp} : ∀ {ds : List D} {vs ws : List V}, ds.mapM vOf = some ws → Reps K Z N H ds vs → vs = ws ∧ ws.all flatV = true
  | [], _, _, h, r => by
    cases h
    cases r
    exact ⟨rfl, rfl⟩
  | d :: ds, _, _, h, ⟨v, r, rfl, h1, h2⟩ => by
    rw [List.mapM_cons] at h
    cases q : vOf d with
    | none => rw [q] at h; cases h
    | some w =>
      cases q2 : ds.mapM vOf with
      | none => rw [q, q2] at h; cases h
      | some ws =>
        rw [q, q2] at h
        cases h
        obtain ⟨rfl, f1⟩ := vOf_rep q h1
        obtain ⟨rfl, f2⟩ := vOfs_reps q2 h2
        exact ⟨rfl, by rw [List.all_cons, f1, f2]; rfl⟩
def seqOf : D → Option (List D)
  | .tup ds => some ds
  | .lst ds => some ds
  | _ => none
def gIn (neg : Bool) : G2 := fun x y Q => match vOf x, (seqOf y).bind (·.mapM vOf) with
  | some v, some vs => Q (.bl (if neg then !inV v vs else inV v vs))
  | _, _ => False
theorem opd_in (neg : Bool) : OpD F (rIn F.K neg) (gIn neg) := ⟨by
  intro N H x y dx dy Qd Q n rx ry h k
  unfold gIn at h
  split at h
  · rename_i v vs h1 h2
    obtain ⟨rfl, f1⟩ := vOf_rep h1 rx
    cases dy <;> first | (cases h2; done) | skip
    · rename_i ds
      obtain ⟨a, ws, rfl, ra, rs⟩ := ry
      obtain ⟨rfl, f2⟩ := vOfs_reps (show ds.mapM vOf = some vs from h2) rs
      exact ⟨a, _, rfl, .inr (sqt_of ra), f1, f2, k _ _ _ Ext.refl rep_bl h⟩
    · rename_i ds
      obtain ⟨a, ws, rfl, na, ra, rs⟩ := ry
      obtain ⟨rfl, f2⟩ := vOfs_reps (show ds.mapM vOf = some vs from h2) rs
      exact ⟨a, _, rfl, .inl (SqL.of ra), f1, f2, k _ _ _ Ext.refl rep_bl h⟩
  · exact h.elim⟩
theorem d_in (hK : F.K = X.K) (ha : PE X a (tD F Ta)) (hb : PE X b (tD F Tb)) (hm : behindInMarks .In b = false := by rfl) : PE X (.Compare a [.In] [b] pos) (tD F (dBin (gIn false) Ta Tb)) := by
  have o := opd_in (F := F) false
  rw [hK] at o
  exact d_cmp op_in_seq o ha hb hm
theorem dt_in (hK : F.K = X.K) (ha : PE X a (tD F Ta)) (hb : PE X b (tD F Tb)) (hm : behindInMarks .In b = false := by rfl) : PT X (.Compare a [.In] [b] pos) (tDT F (dTest (dBin (gIn false) Ta Tb))) := by
  have o := opd_in (F := F) false
  rw [hK] at o
  exact dt_cmp op_in_seq o ha hb hm
theorem d_nin (hK : F.K = X.K) (ha : PE X a (tD F Ta)) (hb : PE X b (tD F Tb)) (hm : behindInMarks .NotIn b = false := by rfl) : PE X (.Compare a [.NotIn] [b] pos) (tD F (dBin (gIn true) Ta Tb)) := by
  have o := opd_in (F := F) true
  rw [hK] at o
  exact d_cmp op_notIn_seq o ha hb hm
theorem dt_nin (hK : F.K = X.K) (ha : PE X a (tD F Ta)) (hb : PE X b (tD F Tb)) (hm : behindInMarks .NotIn b = false := by rfl) : PT X (.Compare a [.NotIn] [b] pos) (tDT F (dTest (dBin (gIn true) Ta Tb))) := by
  have o := opd_in (F := F) true
  rw [hK] at o
  exact dt_cmp op_notIn_seq o ha hb hm
/-! ### ^ -/
abbrev gXor : G2 := gI0 fun i j => .int (Builtin.bitXor i j)
theorem d_xor (ha : PE X a (tD F Ta)) (hb : PE X b (tD F Tb)) : PE X (.BinOp a .BitXor b pos) (tD F (dBin gXor Ta Tb)) := d_op op_xor (opd_I0 fun _ _ _ _ => rfl) ha hb
abbrev gModN : G2 := gI (fun _ j => j ≠ 0) fun i j => .int (i.fmod j)
theorem d_modN (ha : PE X a (tD F Ta)) (hb : PE X b (tD F Tb)) : PE X (.BinOp a .Mod b pos) (tD F (dBin gModN Ta Tb)) := d_op op_modN (opd_I fun _ _ _ _ => rfl) ha hb
/-! ### a < b < c -/
def dChain (g g' : G2) (Ta Tb Tc : TDE) : TDE := fun ξ env Q => Ta ξ env fun x => Tb ξ env fun y => g x y fun z => match z with
  | .bl true => Tc ξ env fun w => g' y w Q
  | .bl false => Q (.bl false)
  | _ => False
theorem chain_imp {r r' : R2} {g g' : G2} (hg : OpD F r g) (hg' : OpD F r' g') : ∀ σ H Q, tD F (dChain g g' Ta Tb Tc) σ H Q → tChain r r' (tD F Ta) (tD F Tb) (tD F Tc) σ H Q := by
  rintro σ H Q ⟨N, env, Qd, f, hT, k⟩
  refine ⟨N, env, _, f, hT, fun x H1 dx e1 rx q1 => ⟨N, env, _, f.ext' e1, q1, fun y H2 dy e2 ry q2 => ?_⟩⟩
  have f2 := (f.ext' e1).ext' e2
  refine hg.ok N H2 x y dx dy _ _ f2.n (rx.ext e2 f.n.z) ry q2 fun v H3 d e3 r3 q3 => ?_
  have f3 := f2.ext' e3
  have e := (e1.trans e2).trans e3
  split at q3
  · refine ⟨true, r3, ?_⟩
    rw [if_pos rfl]
    exact ⟨N, env, _, f3, q3, fun w H4 dw e4 rw' q4 => hg'.ok N H4 y w dy dw _ _ (f3.ext' e4).n (ry.ext (e3.trans e4) f.n.z) rw' q4 fun v H5 d5 e5 r5 q5 => k v H5 d5 ((e.trans e4).trans e5) r5 q5⟩
  · refine ⟨false, r3, ?_⟩
    rw [if_neg Bool.false_ne_true]
    exact k _ _ _ e rep_bl q3
  · exact q3.elim
theorem d_chain {op op' : CmpOp} {r r' : R2} {g g' : G2} (ho : OpR X (compareOp op) r) (ho' : OpR X (compareOp op') r') (hg : OpD F r g) (hg' : OpD F r' g') (ha : PE X a (tD F Ta)) (hb : PE X b (tD F Tb)) (hc : PE X c (tD F Tc))
    (hm : lastMarks [op, op'] [b, c] = false := by with_unfolding_all rfl) : PE X (.Compare a [op, op'] [b, c] pos) (tD F (dChain g g' Ta Tb Tc)) := PE.imp (pe_chain ho ho' ha hb hc hm) (chain_imp hg hg')
theorem dt_chain {op op' : CmpOp} {r r' : R2} {g g' : G2} (ho : OpR X (compareOp op) r) (ho' : OpR X (compareOp op') r') (hg : OpD F r g) (hg' : OpD F r' g') (ha : PE X a (tD F Ta)) (hb : PE X b (tD F Tb)) (hc : PE X c (tD F Tc))
    (hm : lastMarks [op, op'] [b, c] = false := by with_unfolding_all rfl) : PT X (.Compare a [op, op'] [b, c] pos) (tDT F (dTest (dChain g g' Ta Tb Tc))) := PT.imp (pt_chain ho ho' ha hb hc hm) (tTest_imp (chain_imp hg hg'))
theorem od_lt : OpD F (rI0 fun i j => .bl (decide (i < j))) gLt := opd_I0 fun _ _ _ _ => rfl
theorem od_le : OpD F (rI0 fun i j => .bl (decide (i ≤ j))) gLe := opd_I0 fun _ _ _ _ => rfl
/-! ### sum -/
def intsOf : List D → Option (List Int)
  | [] => some []
  | .int i :: ds => (intsOf ds).map (i :: ·)
  | _ :: _ => none
theorem intsOf_eq : ∀ {ds : List D} {ns : List Int}, intsOf ds = some ns → ds = ns.map D.int
  | [], ns, h => by simp [intsOf] at h; subst h; rfl
  | d :: ds, ns, h => by
    cases d <;> first | (simp [intsOf] at h; done) | skip
    rename_i i
    simp only [intsOf, Option.map_eq_some_iff] at h
    obtain ⟨r, h1, h2⟩ := h
    rw [← h2, intsOf_eq h1]; rfl
theorem intsOf_map (ns : List Int) : intsOf (ns.map D.int) = some ns := by
  induction ns with
  | nil => rfl
  | cons n ns ih => rw [List.map_cons, intsOf, ih]; rfl
def gSum : GA := fun xs Q => match xs with
  | [x] => match (seqOf x).bind intsOf with
    | some ns => Q (.int ns.sum)
    | none => False
  | _ => False
def rSumA (K : PySem.W.Frag) : List V → Hp → VK → Prop := fun vs H Q => ∃ (a : Addr) (ns : List Int), vs = [V.ref a] ∧ (SqL K H a (ns.map V.int) ∨ SqT K H a (ns.map V.int)) ∧ Q (.int ns.sum) H
theorem cr_sumA (hc : X.calm = true) : CallR X (.builtin "sum") (rSumA X.K) := by
  intro pins s σ H vs us Q I r h
  obtain ⟨a, ns, rfl, hs | ht, q⟩ := h
  · exact cr_sum hc pins s σ H _ us Q I r ⟨a, ns, rfl, hs, q⟩
  · obtain ⟨its, rv, hl, _⟩ := I.tuple ht
    rw [Vals.ref1 r]
    obtain ⟨xs, e⟩ := rv.ints.allInts.items
    have hn : numsOf (intItems xs).toList = ns := by rw [← e]; exact rv.ints.numsOf
    rw [nums_intItems] at hn
    rw [e] at hl
    have ht2 : s.heap.IsTuple a (intItems xs) := let ⟨o, ho, hc, n, hd⟩ := hl; ⟨o, ho, hc, n, hd⟩
    refine PySem.W.ktm_sumG (I.ok.hd hc) ht2 fun h' tk t' hk => ⟨.int ns.sum, H, I.kept hk, ⟨t', ?_⟩, q⟩
    rw [preSum_eq, List.take_of_length_le (by simp), hn]
theorem cd_sum : CallD F (rSumA F.K) gSum := ⟨by
  intro N H vs ds Qd Q n r h k
  unfold gSum at h
  split at h
  · rename_i x
    split at h
    · rename_i ns hb
      obtain ⟨v, r, rfl, h1, h2⟩ := r
      cases h2
      cases x <;> first | (cases hb; done) | skip
      · rename_i ds
        obtain ⟨a, vs, rfl, ra, rs⟩ := h1
        rw [intsOf_eq (show intsOf ds = some ns from hb)] at rs
        rw [rs.ints] at ra
        exact ⟨a, ns, rfl, .inr (sqt_of ra), k _ _ _ Ext.refl rep_int h⟩
      · rename_i ds
        obtain ⟨a, vs, rfl, na, ra, rs⟩ := h1
        rw [intsOf_eq (show intsOf ds = some ns from hb)] at rs
        rw [rs.ints] at ra
        exact ⟨a, ns, rfl, .inl (SqL.of ra), k _ _ _ Ext.refl rep_int h⟩
    · exact h.elim
  · exact h.elim⟩
/-! ### tuple(x), list(x), str(i), min, max -/
def gTuple : GA := fun xs Q => match xs with
  | [.lst ds] => Q (.tup ds)
  | [.tup ds] => Q (.tup ds)
  | _ => False
theorem cd_tuple : CallD F (fun xs H Q => ∃ p ys, xs = [.ref p] ∧ ((SqL F.K H p ys ∧ ∀ l, H l = none → Q (.ref l) (upd H l (.tup ys))) ∨ (SqT F.K H p ys ∧ Q (.ref p) H))) gTuple := ⟨by
  intro N H vs ds Qd Q n r h k
  unfold gTuple at h
  split at h
  · obtain ⟨v, r, rfl, h1, h2⟩ := r
    cases h2
    obtain ⟨a, vs, rfl, na, ra, rs⟩ := h1
    exact ⟨a, vs, rfl, .inl ⟨SqL.of ra, fun p hp => k _ _ _ (n.lay hp) (rep_newT n hp rs) h⟩⟩
  · obtain ⟨v, r, rfl, h1, h2⟩ := r
    cases h2
    have h3 := h1
    obtain ⟨a, vs, rfl, ra, rs⟩ := h1
    exact ⟨a, vs, rfl, .inr ⟨sqt_of ra, k _ _ _ Ext.refl h3 h⟩⟩
  · exact h.elim⟩
def gList : GA := fun xs Q => match xs with
  | [.lst ds] => Q (.lst ds)
  | [.tup ds] => Q (.lst ds)
  | _ => False
theorem cd_list : CallD F (fun xs H Q => ∃ p ys, xs = [.ref p] ∧ (SqL F.K H p ys ∨ SqT F.K H p ys) ∧ ∀ l, H l = none → Q (.ref l) (upd H l (.lst ys))) gList := ⟨by
  intro N H vs ds Qd Q n r h k
  unfold gList at h
  split at h
  · obtain ⟨v, r, rfl, h1, h2⟩ := r
    cases h2
    obtain ⟨a, vs, rfl, na, ra, rs⟩ := h1
    exact ⟨a, vs, rfl, .inl (SqL.of ra), fun p hp => k _ _ _ (n.lay hp) (rep_newL n hp rs) h⟩
  · obtain ⟨v, r, rfl, h1, h2⟩ := r
    cases h2
    obtain ⟨a, vs, rfl, ra, rs⟩ := h1
    exact ⟨a, vs, rfl, .inr (sqt_of ra), fun p hp => k _ _ _ (n.lay hp) (rep_newL n hp rs) h⟩
  · exact h.elim⟩
def gStr : GA := fun xs Q => match xs with
  | [.int i] => i.natAbs.log2 < 1920 ∧ Q (.str (toString i))
  | _ => False
theorem cd_str : CallD F (fun xs H Q => ∃ i : Int, xs = [.int i] ∧ i.natAbs.log2 < 1920 ∧ Q (.str (toString i)) H) gStr := ⟨by
  intro N H vs ds Qd Q n r h k
  unfold gStr at h
  split at h
  · obtain ⟨v, r, rfl, h1, h2⟩ := r
    cases h2
    exact ⟨_, by rw [show v = _ from h1], h.1, k _ _ _ Ext.refl rep_str h.2⟩
  · exact h.elim⟩
def gMax2 : GA := fun xs Q => match xs with
  | [.int i, .int j] => Q (.int (if j > i then j else i))
  | _ => False
def gMin2 : GA := fun xs Q => match xs with
  | [.int i, .int j] => Q (.int (if j < i then j else i))
  | _ => False
theorem cd_max2 : CallD F (fun xs H Q => ∃ i j, xs = [.int i, .int j] ∧ Q (.int (if j > i then j else i)) H) gMax2 := ⟨by
  intro N H vs ds Qd Q n r h k
  unfold gMax2 at h
  split at h
  · obtain ⟨v, _, rfl, h1, w, _, rfl, h2, h3⟩ := r
    cases h3
    exact ⟨_, _, by rw [show v = _ from h1, show w = _ from h2], k _ _ _ Ext.refl rep_int h⟩
  · exact h.elim⟩
theorem cd_min2 : CallD F (fun xs H Q => ∃ i j, xs = [.int i, .int j] ∧ Q (.int (if j < i then j else i)) H) gMin2 := ⟨by
  intro N H vs ds Qd Q n r h k
  unfold gMin2 at h
  split at h
  · obtain ⟨v, _, rfl, h1, w, _, rfl, h2, h3⟩ := r
    cases h3
    exact ⟨_, _, by rw [show v = _ from h1, show w = _ from h2], k _ _ _ Ext.refl rep_int h⟩
  · exact h.elim⟩
end
end DL
set_option Elab.async false
set_option linter.all false
set_option maxRecDepth 100000
set_option maxHeartbeats 2000000
/-! lists of the def's own: made, appended to, stored to, read, let go as data -/
namespace DL
open PySem PySem.Spec L2
open PyProof.Rows hiding St
/-- a new list at p -/
structure NewL (F : FP) (N : Addr → Prop) (σ : L2.St) (H : Hp) (env : SE) (p : Addr) (vs : List V) (H' : Hp) (ds : List D) : Prop where
  ext : Ext F.Z H H'
  f : FOk F (fun q => N q ∨ q = p) σ H' env
  at_ : H' p = some (.lst vs)
  nb : ¬ F.B p
  rs : Reps F.K F.Z (fun q => N q ∨ q = p) H' ds vs
  ap : ∀ (j : Nat) xs, env[j]? = some (.own xs) → σ[j]? = some (some (.ref p)) → False
  fr : ∀ o, Kp o → H p = some o → False
theorem NOk.fr {F : FP} {N : Addr → Prop} {H H1 : Hp} {p : Addr} (n : NOk F N H) (e : Ext F.Z H H1) (hp : H1 p = none) : ∀ o, Kp o → H p = some o → False := fun o k h => by
  have np := (n.ext' e).fresh hp
  rw [e.keep p o (fun z => np (n.z p z)) k h] at hp
  cases hp
theorem FOk.ap {F : FP} {N : Addr → Prop} {σ : L2.St} {H : Hp} {env : SE} (f : FOk F N σ H env) {p : Addr} (np : ¬ N p) : ∀ (j : Nat) xs, env[j]? = some (.own xs) → σ[j]? = some (some (.ref p)) → False := fun j xs h e => by
  obtain ⟨q, vs, h1, h2, _⟩ := f.slot j _ h
  rw [h1] at e
  cases e
  exact np h2
abbrev TDL := XW → SE → (List D → Prop) → Prop
def tDL (F : FP) (T : TDL) : TE := fun σ H Q => ∃ N env Qd, FOk F N σ H env ∧ T F.ex env Qd ∧ ∀ p vs H' ds, NewL F N σ H env p vs H' ds → Qd ds → Q (.ref p) H'
/-- slot i holds the list -/
theorem NewL.own {F : FP} {N : Addr → Prop} {σ : L2.St} {H : Hp} {env : SE} {p : Addr} {vs : List V} {H' : Hp} {ds : List D} (n : NewL F N σ H env p vs H' ds) (i : Nat) : FOk F (fun q => N q ∨ q = p) (σ.set i (some (.ref p))) H' (env.set i (.own ds)) where
  n := n.f.n
  len := by rw [List.length_set, List.length_set]; exact n.f.len
  slot := fun j s h => by
    by_cases hj : i = j
    · subst hj
      have hl : i < env.length := by
        have := (List.getElem?_eq_some_iff.mp h).1
        rwa [List.length_set] at this
      rw [List.getElem?_set_self hl] at h
      cases h
      exact ⟨p, vs, by rw [List.getElem?_set_self (by rw [n.f.len]; exact hl)], .inr rfl, n.nb, n.at_, n.rs⟩
    · rw [List.getElem?_set_ne hj] at h
      rw [List.getElem?_set_ne hj]
      exact n.f.slot j s h
  apart := fun j k q xs ys hjk h1 h2 h3 h4 => by
    have o : ∀ {j : Nat} {xs : List D}, (env.set i (.own ds))[j]? = some (.own xs) → i ≠ j → env[j]? = some (.own xs) := fun {j xs} h hj => by
      rw [List.getElem?_set_ne hj] at h
      exact h
    have at_i : ∀ {r : Addr}, (σ.set i (some (.ref p)))[i]? = some (some (.ref r)) → r = p := fun {r} h => by
      have hl : i < σ.length := by
        have := (List.getElem?_eq_some_iff.mp h).1
        rwa [List.length_set] at this
      rw [List.getElem?_set_self hl] at h
      cases h
      rfl
    by_cases hj : i = j
    · subst hj
      have e := at_i h3
      subst e
      rw [List.getElem?_set_ne hjk] at h4
      exact n.ap k ys (o h2 hjk) h4
    · by_cases hk : i = k
      · subst hk
        have e := at_i h4
        subst e
        rw [List.getElem?_set_ne hj] at h3
        exact n.ap j xs (o h1 hj) h3
      · rw [List.getElem?_set_ne hj] at h3
        rw [List.getElem?_set_ne hk] at h4
        exact n.f.apart j k q xs ys hjk (o h1 hj) (o h2 hk) h3 h4
theorem NewL.evo {F : FP} {N : Addr → Prop} {σ : L2.St} {H : Hp} {env : SE} {p : Addr} {vs : List V} {H' : Hp} {ds : List D} (n : NewL F N σ H env p vs H' ds) (nk : NOk F N H) : Evo N H (fun q => N q ∨ q = p) H' := fun q o nq k e =>
  ⟨n.ext.keep q o (fun z => nq (nk.z q z)) k e, fun z => z.elim nq fun y => n.fr o k (by rw [← y]; exact e)⟩
section
variable {X : Cx} {F : FP} {a b c e : Expr} {es : List Expr} {pos p p1 p2 : Pos} {Ta Tb Tc : TDE} {Tas : TDA} {Tl : TDL} {tt : TDT} {te : TDE}
/-! ### new lists -/
def lLst (T : TDA) : TDL := fun ξ env Q => T ξ env fun ds => ds.length ≤ sizeLine ∧ Q ds
theorem newL_lay {N : Addr → Prop} {σ : L2.St} {H H1 : Hp} {env : SE} {p : Addr} {vs : List V} {ds : List D} (f : FOk F N σ H env) (e : Ext F.Z H H1) (hp : H1 p = none) (r : Reps F.K F.Z N H1 ds vs) : NewL F N σ H env p vs (upd H1 p (.lst vs)) ds := by
  have f1 := f.ext' e
  refine ⟨e.trans (f1.n.lay hp), f1.with kp_lst hp (f1.nb hp), upd_same, f1.nb hp, ?_, f.ap (f1.n.fresh hp), f.n.fr e hp⟩
  exact Reps.mono (fun q o n k h => by
    have ne := ne_of_none h hp
    exact ⟨by rw [upd_ne ne]; exact h, fun z => z.elim n ne⟩) _ _ r
theorem l_lst (h : PA X es (tDA F Tas)) : PE X (.List es pos) (tDL F (lLst Tas)) := PE.imp (pe_lst h) (by
  rintro σ H Q ⟨N, env, Qd, f, hT, k⟩
  refine ⟨N, env, _, f, hT, fun vs H1 ds e1 r1 q1 => ⟨by rw [← r1.length]; exact q1.1, fun p hp => k p vs _ ds (newL_lay f e1 hp r1) q1.2⟩⟩)
theorem lc_endL {N : Addr → Prop} {σ : L2.St} {H0 H1 H' : Hp} {env : SE} {A : Addr} {all : List D} {Ql : List D → Prop} {j : Nat} (f : FOk F N σ H1 env) (hA : H1 A = none) {G : TDG} {Q : VK} (f0 : FOk F N σ H0 env) (e : Ext F.Z H0 H1)
    (k : ∀ p vs H' ds, NewL F N σ H0 env p vs H' ds → Ql ds → Q (.ref p) H') {n : Nat} (hn : all.length = n) (L : LcAt F N H1 A G tt te (wipeD env [j]) all (fun d => match d with | .lst ds => Ql ds | _ => False) n H') : Q (.ref A) H' := by
  obtain ⟨ext, acc, ds, h1, h2, h3, h4⟩ := L
  rw [← hn, List.drop_length] at h4
  have h4 : Ql (ds ++ []) := h4
  rw [List.append_nil] at h4
  exact k A acc H' ds ⟨e.trans ext, f.with' kp_lst hA ext h1, h1, f.nb hA, h3, f.ap (f.n.fresh hA), f0.n.fr e hA⟩ h4
def lLcR (T : TDA) (j : Nat) (tt : TDT) (te : TDE) : TDL := fun ξ env Q => T ξ env fun ds => match ds with
  | [.int n] => (0 ≤ n ∧ n ≤ sizeLine) ∧ lcD (dgName j) tt te (wipeD env [j]) (intsD 0 n.toNat) Q
  | _ => False
theorem lcR_impL {j : Nat} : ∀ σ H Q, tDL F (lLcR Tas j tt te) σ H Q → tLc (iRng1 (tDA F Tas)) (gName j) (tDT F.calm tt) (tD F.calm te) [j] σ H Q := by
  rintro σ H Q ⟨N, env, Qd, f, hT, k⟩
  refine ⟨N, env, _, f, hT, fun vs H1 ds e1 r q => ?_⟩
  split at q
  · rename_i n
    obtain ⟨v, _, rfl, r1, r2⟩ := r
    cases r2
    have f1 := f.ext' e1
    have hs : (sizeLine : Nat) < 2 ^ 62 := by rw [sizeLine_eq]; decide
    refine ⟨n, by rw [show v = _ from r1], by omega, by omega, fun A hA => ?_⟩
    refine lc_range (lo := 0) (n := n.toNat) (fun i H' => LcAt F N H1 A (dgName j) tt te (wipeD env [j]) (intsD 0 n.toNat) (fun d => match d with | .lst ds => Qd ds | _ => False) i H') (lc_start f1.n hA q.2) (fun i H' hi L => ?_) (fun H' L => lc_endL f1 hA f e1 k ints_len L)
    exact lc_turn f1 hA (by rw [ints_len]; omega) (ints_get hi) rep_int L
  · exact q.elim
def lLc (T : TDE) (j : Nat) (tt : TDT) (te : TDE) : TDL := fun ξ env Q => T ξ env fun d => match d with
  | .lst ds => ds.length ≤ sizeLine ∧ lcD (dgName j) tt te (wipeD env [j]) ds Q
  | _ => False
theorem lc_impL {j : Nat} : ∀ σ H Q, tDL F (lLc Ta j tt te) σ H Q → tLc (iList F.K (tD F Ta)) (gName j) (tDT F.calm tt) (tD F.calm te) [j] σ H Q := by
  rintro σ H Q ⟨N, env, Qd, f, hT, k⟩
  refine ⟨N, env, _, f, hT, fun v H1 d e1 r q => ?_⟩
  cases d <;> first | exact q.elim | skip
  rename_i ds
  obtain ⟨a, vs, rfl, na, ra, rs⟩ := r
  have f1 := f.ext' e1
  refine ⟨a, rfl, ⟨vs, SqL.of ra⟩, fun A hA => ?_⟩
  refine lc_list (K := F.K) (a := a) (xs := vs) (fun i H' => LcAt F N H1 A (dgName j) tt te (wipeD env [j]) ds (fun d => match d with | .lst ds => Qd ds | _ => False) i H') (lc_start f1.n hA q.2) (fun i H' _ L => SqL.of (L.ext.keep a _ (fun z => na (f.n.z a z)) kp_lst ra)) (fun i x H' hx L => ?_) (fun H' L => lc_endL f1 hA f e1 k rs.length L)
  obtain ⟨d, hd, rd⟩ := rs.getV hx
  exact lc_turn f1 hA q.1 hd rd L
variable {elt iter tg : Expr} {ifs : List Expr} {scope : Scope} {own : List (Str × Nat)} {j : Nat} {pos' : Pos}
theorem l_lcR (hK : F.K = X.K) (hc : X.calm = true) (hN : X.N.Nodup) (hgl : Gl X "range") (hm : X.mg "range" = none) (ha : PA X [a] (tDA F Tas)) (ok : BlkOk X.N X.env.scope scope own) (hv : own.map (·.2) = [j])
    (hg : ∀ (s : Shared) (H : Hp) (C : Addr) (cl : List (Str × Addr)) (fp : List Addr), PG (X.blk s H scope (compEnvC scope cl C X.env) fp) tg (gName j)) (ht : ∀ (s : Shared) (H : Hp) (C : Addr) (cl : List (Str × Addr)) (fp : List Addr), PTs (X.blk s H scope (compEnvC scope cl C X.env) fp) ifs (tDT F.calm tt))
    (he : ∀ (s : Shared) (H : Hp) (C : Addr) (cl : List (Str × Addr)) (fp : List Addr), PE (X.blk s H scope (compEnvC scope cl C X.env) fp) elt (tD F.calm te)) (hsa : starEach [a] X.env = [(false, eval a X.env)] := by rfl) (hs : ∀ x, foldedSetIterable (.Call (.Name "range" p) [a] [] pos') X.env x = pure x := by intro _; rfl) :
    PE X (.ListComp elt [⟨tg, .Call (.Name "range" p) [a] [] pos', ifs, 0⟩] scope pos) (tDL F (lLcR Tas j tt te)) := by
  have z := pe_lc (pos := pos) hc hN (pi_range1 hgl hm ha hsa) ok hg ht he hs
  rw [hv] at z
  exact PE.imp z lcR_impL
theorem l_lc (hK : F.K = X.K) (hc : X.calm = true) (hN : X.N.Nodup) (hi : PE X iter (tD F Ta)) (ok : BlkOk X.N X.env.scope scope own) (hv : own.map (·.2) = [j])
    (hg : ∀ (s : Shared) (H : Hp) (C : Addr) (cl : List (Str × Addr)) (fp : List Addr), PG (X.blk s H scope (compEnvC scope cl C X.env) fp) tg (gName j)) (ht : ∀ (s : Shared) (H : Hp) (C : Addr) (cl : List (Str × Addr)) (fp : List Addr), PTs (X.blk s H scope (compEnvC scope cl C X.env) fp) ifs (tDT F.calm tt))
    (he : ∀ (s : Shared) (H : Hp) (C : Addr) (cl : List (Str × Addr)) (fp : List Addr), PE (X.blk s H scope (compEnvC scope cl C X.env) fp) elt (tD F.calm te)) (hs : ∀ x, foldedSetIterable iter X.env x = pure x := by intro _; rfl) :
    PE X (.ListComp elt [⟨tg, iter, ifs, 0⟩] scope pos) (tDL F (lLc Ta j tt te)) := by
  have z := pe_lc (pos := pos) hc hN (pi_list hi) ok hg ht he hs
  rw [hv] at z
  exact PE.imp z (by rw [← hK]; exact lc_impL)
/-- [..] * k -/
def lRep (Ta Tb : TDE) : TDL := fun ξ env Q => Ta ξ env fun x => Tb ξ env fun y => match x, y with
  | .lst xs, .int k => (-(2 ^ 63) ≤ k ∧ k < 2 ^ 63 ∧ xs.length * k.toNat ≤ sizeLine) ∧ Q (List.replicate k.toNat xs).flatten
  | _, _ => False
theorem l_rep (ha : PE X a (tD F Ta)) (hb : PE X b (tD F Tb)) : PE X (.BinOp a .Mult b pos) (tDL F (lRep Ta Tb)) := PE.imp (pe_op op_rep ha hb) (by
  rintro σ H Q ⟨N, env, Qd, f, hT, k⟩
  refine ⟨N, env, _, f, hT, fun x H1 dx e1 rx q1 => ⟨N, env, _, f.ext' e1, q1, fun y H2 dy e2 ry q2 => ?_⟩⟩
  have r3 := rx.ext e2 f.n.z
  split at q2
  · obtain ⟨l, vs, rfl, nl, hl, rl⟩ := r3
    cases (show y = .int _ from ry)
    exact ⟨l, _, vs, rfl, rfl, hl, q2.1.1, q2.1.2.1, by rw [← rl.length]; exact q2.1.2.2, fun p hp => k p _ _ _ (newL_lay f (e1.trans e2) hp (reps_flat rl _)) q2.2⟩
  · exact q2.elim)
/-- a + b, lists -/
def lCat (Ta Tb : TDE) : TDL := fun ξ env Q => Ta ξ env fun x => Tb ξ env fun y => match x, y with
  | .lst xs, .lst ys => xs.length + ys.length ≤ sizeLine ∧ Q (xs ++ ys)
  | _, _ => False
theorem l_cat (ha : PE X a (tD F Ta)) (hb : PE X b (tD F Tb)) : PE X (.BinOp a .Add b pos) (tDL F (lCat Ta Tb)) := PE.imp (pe_op op_cat ha hb) (by
  rintro σ H Q ⟨N, env, Qd, f, hT, k⟩
  refine ⟨N, env, _, f, hT, fun x H1 dx e1 rx q1 => ⟨N, env, _, f.ext' e1, q1, fun y H2 dy e2 ry q2 => ?_⟩⟩
  have r3 := rx.ext e2 f.n.z
  split at q2
  · obtain ⟨l, vs, rfl, nl, hl, rl⟩ := r3
    obtain ⟨b, ws, rfl, nb, hb, rb⟩ := ry
    exact ⟨l, b, vs, ws, rfl, rfl, hl, hb, by rw [← rl.length, ← rb.length]; exact q2.1, fun p hp => k p _ _ _ (newL_lay f (e1.trans e2) hp (rl.append rb)) q2.2⟩
  · exact q2.elim)
/-- list(x) -/
def lList (T : TDE) : TDL := fun ξ env Q => T ξ env fun x => match x with
  | .lst xs => Q xs
  | .tup xs => Q xs
  | _ => False
theorem l_list (hK : F.K = X.K) (hg : Gl X "list") (hm : X.mg "list" = none) (ha : PE X a (tD F Ta)) (he : starEach [a] X.env = (false, eval a X.env) :: starEach [] X.env := by rfl) (hpl : (backTo pos (starEach [] X.env)).any (·.1) = false := by rfl) :
    PE X (.Call (.Name "list" p) [a] [] pos) (tDL F (lList Ta)) := PE.imp (pe_callTy call_list_of hg hm (by decide +kernel) (pa_cons ha pa_nil he) (by decide) (by decide) he hpl) (by
  rintro σ H Q ⟨N, env, Qd, f, hT, k⟩
  refine ⟨N, env, _, f, hT, fun x H1 dx e1 rx q1 => ?_⟩
  rw [← hK]
  split at q1
  · obtain ⟨l, vs, rfl, nl, hl, rl⟩ := rx
    exact ⟨l, vs, rfl, .inl (SqL.of hl), fun p hp => k p _ _ _ (newL_lay f e1 hp rl) q1⟩
  · obtain ⟨l, vs, rfl, hl, rl⟩ := rx
    exact ⟨l, vs, rfl, .inr (sqt_of hl), fun p hp => k p _ _ _ (newL_lay f e1 hp rl) q1⟩
  · exact q1.elim)
/-! ### x = new list; x, y = new list, e -/
def dOwn (T : TDL) (i : Nat) : TDS := fun ξ De env => T ξ env fun ds => De.nx (env.set i (.own ds))
theorem ds_own {i : Nat} {x : Str} {pos' : Pos} (hN : X.N.Nodup) (hi : X.N[i]? = some x) (hx : Loc X.env.scope x) (he : PE X e (tDL F Tl)) (hs : swapsWith e (some (.Name x pos')) pos.line X.env = pure false := by rfl)
    (hf : X.fn x = true ∨ X.env.scope.names.lookup x = some .local := by first | exact .inl rfl | exact .inr rfl | assumption) : PS X (.Assign [.Name x pos'] e pos) (sD F (dOwn Tl i)) :=
  PS.imp (ps_set hN hi hx he hs hf) (by
  rintro De σ H ⟨N, env, Dd, f, hT, ok⟩
  exact ⟨N, env, _, f, hT, fun p vs H' ds n q => ok.nx _ _ _ _ (n.own i) (n.evo f.n) q⟩)
/-- x, y = new list, e -/
def dOwnPar (T : TDL) (Tb : TDE) (i j : Nat) : TDS := fun ξ De env => T ξ env fun ds => Tb ξ env fun y => De.nx ((env.set i (.own ds)).set j (.d y))
theorem NewL.ext' {N : Addr → Prop} {σ : L2.St} {H : Hp} {env : SE} {p : Addr} {vs : List V} {H' H2 : Hp} {ds : List D} (n : NewL F N σ H env p vs H' ds) (nk : NOk F N H) (e : Ext F.Z H' H2) : NewL F N σ H env p vs H2 ds :=
  ⟨n.ext.trans e, n.f.ext' e, e.keep p _ (fun z => n.nb (nk.zin p z)) kp_lst n.at_, n.nb, n.rs.ext e (fun q z => .inl (nk.z q z)), n.ap, n.fr⟩
/-- the old frame, behind the making of a list -/
theorem NewL.old {N : Addr → Prop} {σ : L2.St} {H : Hp} {env : SE} {p : Addr} {vs : List V} {H' : Hp} {ds : List D} (n : NewL F N σ H env p vs H' ds) (f : FOk F N σ H env) : FOk F N σ H' env := f.ext' n.ext
theorem ds_ownPar {i j : Nat} {x y : Str} {px py pt : Pos} {kt k2 pt2} (hc : X.calm = true) (hN : X.N.Nodup) (hi : X.N[i]? = some x) (hj : X.N[j]? = some y) (hij : i ≠ j) (hx : X.env.scope.names.lookup x = some .local) (hy : X.env.scope.names.lookup y = some .local)
    (ha : PE X a (tDL F Tl)) (hb : PE X b (tD F Tb)) (he : starEach [a, b] X.env = (false, eval a X.env) :: starEach [b] X.env := by rfl) (he2 : starEach [b] X.env = (false, eval b X.env) :: starEach [] X.env := by rfl)
    (hw : swappedStores [.Tuple [.Name x px, .Name y py] kt pt] (.Tuple [a, b] k2 pt2) X.env = pure (some [x, y]) := by rfl)
    (hs : swapsWithSole [.Tuple [.Name x px, .Name y py] kt pt] (.Tuple [a, b] k2 pt2) pos.line X.env = pure false := by rfl) : PS X (.Assign [.Tuple [.Name x px, .Name y py] kt pt] (.Tuple [a, b] k2 pt2) pos) (sD F (dOwnPar Tl Tb i j)) :=
  PS.imp (ps_par hc hN hi hj hij hx hy (pa_cons ha (pa_cons hb pa_nil he2) he) hw hs) (by
  rintro De σ H ⟨N, env, Dd, f, hT, ok⟩
  refine ⟨N, env, _, f, hT, fun p vs H1 ds n q => ⟨_, env, _, n.f, q, fun v H2 d e2 r2 q2 => ⟨_, _, rfl, ?_⟩⟩⟩
  have n2 := n.ext' f.n e2
  exact ok.nx _ _ _ _ ((n2.own i).set j r2) (n2.evo f.n) q2)
def dOwnPar3 (T : TDL) (Tb Tc : TDE) (i j l : Nat) : TDS := fun ξ De env => T ξ env fun ds => Tb ξ env fun y => Tc ξ env fun z => De.nx (((env.set i (.own ds)).set j (.d y)).set l (.d z))
theorem ds_ownPar3 {i j l : Nat} {x y z : Str} {px py pz pt : Pos} {kt k2 pt2} (hc : X.calm = true) (hN : X.N.Nodup) (hi : X.N[i]? = some x) (hj : X.N[j]? = some y) (hl : X.N[l]? = some z) (hij : i ≠ j) (hil : i ≠ l) (hjl : j ≠ l)
    (hx : X.env.scope.names.lookup x = some .local) (hy : X.env.scope.names.lookup y = some .local) (hz : X.env.scope.names.lookup z = some .local)
    (ha : PE X a (tDL F Tl)) (hb : PE X b (tD F Tb)) (hc' : PE X c (tD F Tc)) (he : starEach [a, b, c] X.env = (false, eval a X.env) :: starEach [b, c] X.env := by rfl) (he2 : starEach [b, c] X.env = (false, eval b X.env) :: starEach [c] X.env := by rfl) (he3 : starEach [c] X.env = (false, eval c X.env) :: starEach [] X.env := by rfl)
    (hw : swappedStores [.Tuple [.Name x px, .Name y py, .Name z pz] kt pt] (.Tuple [a, b, c] k2 pt2) X.env = pure (some [x, y, z]) := by rfl)
    (hs : swapsWithSole [.Tuple [.Name x px, .Name y py, .Name z pz] kt pt] (.Tuple [a, b, c] k2 pt2) pos.line X.env = pure false := by rfl) : PS X (.Assign [.Tuple [.Name x px, .Name y py, .Name z pz] kt pt] (.Tuple [a, b, c] k2 pt2) pos) (sD F (dOwnPar3 Tl Tb Tc i j l)) :=
  PS.imp (ps_par3 hc hN hi hj hl hij hil hjl hx hy hz (pa_cons ha (pa_cons hb (pa_cons hc' pa_nil he3) he2) he) hw hs) (by
  rintro De σ H ⟨N, env, Dd, f, hT, ok⟩
  refine ⟨N, env, _, f, hT, fun p vs H1 ds n q => ⟨_, env, _, n.f, q, fun v H2 d e2 r2 q2 => ⟨_, env, _, n.f.ext' e2, q2, fun w H3 dw e3 r3 q3 => ⟨_, _, _, rfl, ?_⟩⟩⟩⟩
  have n2 := n.ext' f.n (e2.trans e3)
  exact ok.nx _ _ _ _ (((n2.own i).set j (r2.ext e3 fun q z => .inl (f.n.z q z))).set l r3) (n2.evo f.n) q3)
/-! ### reading it -/
def dOwnIx (i : Nat) (Tb : TDE) : TDE := fun ξ env Q => match env[i]? with
  | some (.own xs) => Tb ξ env fun k => match k with
    | .int j => match atI xs j with
      | some d => Q d
      | none => False
    | _ => False
  | _ => False
theorem d_ownIx {i : Nat} (hK : F.K = X.K) (ha : PE X a (tVar i)) (hb : PE X b (tD F Tb)) (hs : PlainIx b) : PE X (.Subscript a b pos) (tD F (dOwnIx i Tb)) := PE.imp (pe_ix ix_seq ha hb hs) (by
  rintro σ H Q ⟨N, env, Qd, f, hT, k⟩
  unfold dOwnIx at hT
  split at hT
  · rename_i xs hx
    obtain ⟨p, vs, e1, h2, h3, h4, h5⟩ := f.slot i _ hx
    refine ⟨.ref p, e1, N, env, _, f, hT, fun y H1 d e r q => ?_⟩
    split at q
    · split at q
      · rename_i jj _ dv hd
        have h5' := h5.ext e f.n.z
        obtain ⟨v, h6, h7⟩ := atI_rep h5' hd
        cases (show y = .int _ from r)
        exact .inl ⟨p, vs, _, v, rfl, rfl, SqL.of (e.keep p _ (fun z => h3 (f.n.zin p z)) kp_lst h4), h6, k v H1 dv e h7 q⟩
      · exact q.elim
    · exact q.elim
  · exact hT.elim)
/-- the list as data, for a moment -/
theorem FOk.lend {N : Addr → Prop} {σ : L2.St} {H : Hp} {env : SE} (f : FOk F N σ H env) {i : Nat} {xs : List D} (hx : env[i]? = some (.own xs)) : ∃ p vs, σ[i]? = some (some (.ref p)) ∧ N p ∧ ¬ F.B p ∧ H p = some (.lst vs) ∧ FOk F (fun q => N q ∧ q ≠ p) σ H (env.set i (.d (.lst xs))) := by
  obtain ⟨p, vs, e1, h2, h3, h4, h5⟩ := f.slot i _ hx
  refine ⟨p, vs, e1, h2, h3, h4, ⟨f.n.deck, f.n.ext, fun q h => ⟨f.n.sub q h, fun z => h3 (by rw [← z]; exact h)⟩, f.n.zin, fun q h => f.n.all q h.1, fun q h => f.n.new q h.1, fun q o n k h => ?_, f.n.tb⟩, by rw [List.length_set]; exact f.len, fun j s h => ?_, fun j k q ys zs hjk g1 g2 g3 g4 => ?_⟩
  · obtain ⟨a1, a2⟩ := f.n.gr q o n k h
    exact ⟨a1, fun z => a2 z.1⟩
  · by_cases hj : i = j
    · subst hj
      have hl : i < env.length := (List.getElem?_eq_some_iff.mp hx).1
      rw [List.getElem?_set_self hl] at h
      cases h
      exact ⟨.ref p, e1, p, vs, rfl, fun z => z.2 rfl, h4, h5.less fun q z => z.1⟩
    · rw [List.getElem?_set_ne hj] at h
      have q := f.slot j _ h
      cases s with
      | un => trivial
      | raw v => exact q
      | d x => exact let ⟨v, q1, q2⟩ := q; ⟨v, q1, q2.less fun r z => z.1⟩
      | own ys =>
        obtain ⟨r, ws, q1, q2, q3, q4, q5⟩ := q
        exact ⟨r, ws, q1, ⟨q2, fun z => by subst z; exact f.apart i j r xs ys hj hx h e1 q1⟩, q3, q4, q5.less fun r z => z.1⟩
  · have o : ∀ {j : Nat} {ys : List D}, (env.set i (.d (.lst xs)))[j]? = some (.own ys) → env[j]? = some (.own ys) := fun {j ys} h => by
      by_cases hj : i = j
      · subst hj
        rw [List.getElem?_set_self (List.getElem?_eq_some_iff.mp hx).1] at h
        cases h
      · rw [List.getElem?_set_ne hj] at h
        exact h
    exact f.apart j k q ys zs hjk (o g1) (o g2) g3 g4
def flatD : D → Bool
  | .non => true
  | .bl _ => true
  | .int _ => true
  | .str _ => true
  | _ => false
theorem flat_any {K : PySem.W.Frag} {Z : Zn} {N N' : Addr → Prop} {H : Hp} {d : D} {v : V} (h : flatD d = true) (r : Rep K Z N H d v) : Rep K Z N' H d v := by
  cases d <;> first | exact r | cases h
/-- an expression that reads the list of slot i as data and tells something flat -/
def dLend (i : Nat) (T : TDE) : TDE := fun ξ env Q => match env[i]? with
  | some (.own xs) => T (fun _ _ => False) (env.set i (.d (.lst xs))) fun d => flatD d = true ∧ Q d
  | _ => False
theorem d_lend {i : Nat} (h : PE X e (tD F.calm Ta)) : PE X e (tD F (dLend i Ta)) := PE.imp h (by
  rintro σ H Q ⟨N, env, Qd, f, hT, k⟩
  unfold dLend at hT
  split at hT
  · rename_i xs hx
    obtain ⟨p, vs, e1, h2, h3, h4, f2⟩ := f.lend hx
    exact ⟨_, _, _, f2.wish _, hT, fun v H' d e r q => k v H' d e (flat_any q.1 r) q.2⟩
  · exact hT.elim)
/-! ### let go: from now on it is data -/
def dFreeze (i : Nat) (T : TDS) : TDS := fun ξ De env => match env[i]? with
  | some (.own xs) => T ξ De (env.set i (.d (.lst xs)))
  | _ => False
theorem dss_freeze {i : Nat} {sts : List Stmt} {T : TDS} (h : PSs X sts (sD F T)) : PSs X sts (sD F (dFreeze i T)) := PSs.imp h (by
  rintro De σ H ⟨N, env, Dd, f, hT, ok⟩
  unfold dFreeze at hT
  split at hT
  · rename_i xs hx
    obtain ⟨p, vs, e1, h2, h3, h4, f2⟩ := f.lend hx
    exact ⟨_, _, Dd, f2, hT, ok.of fun q o n k h => ⟨h, fun z => n z.1⟩⟩
  · exact hT.elim)
/-! ### x.append(e), x[i] = e -/
theorem FOk.store {N : Addr → Prop} {σ : L2.St} {H1 : Hp} {env : SE} (f : FOk F N σ H1 env) {i : Nat} {xs ys : List D} {p : Addr} {vs ws : List V} (hx : env[i]? = some (.own xs)) (e1 : σ[i]? = some (some (.ref p))) (h2 : N p) (h3 : ¬ F.B p) (h4 : H1 p = some (.lst vs)) (hr : Reps F.K F.Z N H1 ys ws) :
    FOk F N σ (upd H1 p (.lst ws)) (env.set i (.own ys)) ∧ Evo N H1 N (upd H1 p (.lst ws)) := by
  have ev : Evo N H1 N (upd H1 p (.lst ws)) := fun q o n k h => ⟨by rw [upd_ne (fun z => n (by rw [z]; exact h2))]; exact h, n⟩
  have nz : ¬ InZ F.Z p := fun z => h3 (f.n.zin p z)
  refine ⟨⟨⟨⟨fun a l ez => ?_, fun q hq => tab_upd h4 kp_lst (fun _ h => by cases h) (f.n.deck.2 q hq)⟩, ⟨fun q o n k h => ?_, fun dk => ⟨fun a l ez => ?_, fun q hq => tab_upd h4 kp_lst (fun _ h => by cases h) (f.n.deck.2 q hq)⟩⟩, f.n.sub, f.n.zin, fun q h => ?_, f.n.new, f.n.gr.trans ev, f.n.tb⟩, by rw [List.length_set]; exact f.len, fun j s h => ?_, fun j k q ys' zs hjk g1 g2 g3 g4 => ?_⟩, ev⟩
  · obtain ⟨xs, m, c, k1, k2, k3⟩ := f.n.deck.1 a l ez
    exact ⟨xs, m, c, by rw [upd_ne (fun z => nz (by rw [← z]; exact ⟨a, l, ez, .inl rfl⟩))]; exact k1, by rw [upd_ne (fun z => nz (by rw [← z]; exact ⟨a, l, ez, .inr rfl⟩))]; exact k2, k3⟩
  · have ne : q ≠ p := fun z => by
      subst z
      exact f.n.new q h2 h3 o k h
    rw [upd_ne ne]
    exact f.n.ext.keep q o n k h
  · obtain ⟨xs, m, c, k1, k2, k3⟩ := f.n.deck.1 a l ez
    exact ⟨xs, m, c, by rw [upd_ne (fun z => nz (by rw [← z]; exact ⟨a, l, ez, .inl rfl⟩))]; exact k1, by rw [upd_ne (fun z => nz (by rw [← z]; exact ⟨a, l, ez, .inr rfl⟩))]; exact k2, k3⟩
  · by_cases z : q = p
    · subst z
      exact ⟨_, upd_same, kp_lst⟩
    · obtain ⟨o, q1, q2⟩ := f.n.all q h
      exact ⟨o, by rw [upd_ne z]; exact q1, q2⟩
  · have mv : ∀ q o, ¬ N q → Kp o → H1 q = some o → upd H1 p (.lst ws) q = some o ∧ ¬ N q := fun q o n k h => ev q o n k h
    by_cases hj : i = j
    · subst hj
      rw [List.getElem?_set_self (List.getElem?_eq_some_iff.mp hx).1] at h
      cases h
      exact ⟨p, ws, e1, h2, h3, upd_same, Reps.mono mv _ _ hr⟩
    · rw [List.getElem?_set_ne hj] at h
      have q := f.slot j _ h
      cases s with
      | un => trivial
      | raw v => exact q
      | d x => exact let ⟨v, q1, q2⟩ := q; ⟨v, q1, Rep.mono mv _ _ q2⟩
      | own zs =>
        obtain ⟨r, us, q1, q2, q3, q4, q5⟩ := q
        have ne : r ≠ p := fun z => by
          subst z
          exact f.apart i j r xs zs hj hx h e1 q1
        exact ⟨r, us, q1, q2, q3, by rw [upd_ne ne]; exact q4, Reps.mono mv _ _ q5⟩
  · have o : ∀ {j : Nat} {zs : List D}, (env.set i (.own ys))[j]? = some (.own zs) → ∃ us, env[j]? = some (.own us) := fun {j zs} h => by
      by_cases hj : i = j
      · subst hj
        exact ⟨xs, hx⟩
      · rw [List.getElem?_set_ne hj] at h
        exact ⟨zs, h⟩
    obtain ⟨u1, o1⟩ := o g1
    obtain ⟨u2, o2⟩ := o g2
    exact f.apart j k q u1 u2 hjk o1 o2 g3 g4
def dApp (i : Nat) (T : TDE) : TDS := fun ξ De env => match env[i]? with
  | some (.own xs) => T ξ env fun d => xs.length < sizeLine ∧ De.nx (env.set i (.own (xs ++ [d])))
  | _ => False
theorem ds_app {i : Nat} {x : Str} {apos cpos : Pos} (hK : F.K = X.K) (hx : PE X (.Name x p) (tVar i)) (he : PE X e (tD F Ta)) (hbase : attributeBase (.Name x p) "append" X.env (eval (.Name x p) X.env) = eval (.Name x p) X.env := by rfl)
    (hfew : ((backTo cpos (starEach [e] X.env)).all (fun x => !x.1) && (backToKw cpos (keywordEach [] X.env)).all (fun x => x.1.isSome) && decide ([e].length + ([] : List Keyword).length + (if ([] : List Keyword).isEmpty then 0 else 1) < 30)) = true := by rfl)
    (hline : (apos.endLine == cpos.line) = true := by rfl) (hs : starEach [e] X.env = (false, eval e X.env) :: starEach [] X.env := by rfl) (hplain : (backTo cpos (starEach [] X.env)).any (·.1) = false := by rfl)
    (hsw : swapsWith (.Call (.Attribute (.Name x p) "append" apos) [e] [] cpos) none pos.line X.env = pure false := by rfl) : PS X (.Expr (.Call (.Attribute (.Name x p) "append" apos) [e] [] cpos) pos) (sD F (dApp i Ta)) :=
  PS.imp (ps_expr (pe_bm PySem.F.plainAttrs_list PySem.F.slot_list_append PySem.F.type_list_append mt_append hx (pa_cons he pa_nil hs) hbase hfew hline hs hplain) hsw) (by
  rintro De σ H ⟨N, env, Dd, f, hT, ok⟩
  unfold dApp at hT
  split at hT
  · rename_i xs hx
    obtain ⟨p, vs, e1, h2, h3, h4, h5⟩ := f.slot i _ hx
    refine ⟨.ref p, e1, .inl ⟨rfl, vs, by rw [← hK]; exact SqL.of h4⟩, N, env, _, f, hT, fun v H1 d ex r q => ?_⟩
    have f1 := f.ext' ex
    have h4' : H1 p = some (.lst vs) := ex.keep p _ (fun z => h3 (f.n.zin p z)) kp_lst h4
    have h5' := h5.ext ex f.n.z
    refine ⟨p, vs, v, rfl, rfl, h4', by rw [← h5.length]; exact q.1, ?_⟩
    obtain ⟨f2, ev⟩ := f1.store hx e1 h2 h3 h4' (h5'.snoc r)
    exact ok.nx _ _ _ _ f2 ((Evo.of f.n ex).trans ev) q.2
  · exact hT.elim)
/-- x[k] = e -/
def dSetAt (i : Nat) (Tk Te : TDE) : TDS := fun ξ De env => Te ξ env fun d => match env[i]? with
  | some (.own xs) => Tk ξ env fun k => match k with
    | .int j => match ixN xs.length j with
      | some n => De.nx (env.set i (.own (xs.set n d)))
      | none => False
    | _ => False
  | _ => False
theorem Reps.set {K : PySem.W.Frag} {Z : Zn} {N : Addr → Prop} {H : Hp} {d : D} {v : V} (r : Rep K Z N H d v) : ∀ {ds : List D} {vs : List V} (n : Nat), Reps K Z N H ds vs → Reps K Z N H (ds.set n d) (vs.set n v)
  | [], _, _, h => by cases h; rfl
  | x :: ds, _, 0, ⟨w, u, rfl, h1, h2⟩ => ⟨v, u, rfl, r, h2⟩
  | x :: ds, _, n + 1, ⟨w, u, rfl, h1, h2⟩ => ⟨w, u.set n v, rfl, h1, Reps.set r n h2⟩
theorem ds_setAt {i : Nat} {x : Str} {pk : Expr} {sp : Pos} (hx : PE X (.Name x p) (tVar i)) (hk : PE X pk (tD F Tb)) (he : PE X e (tD F Ta))
    (hA : ∀ v, assign (.Subscript (.Name x p) pk sp) X.env v = (do
      let ov ← holding [v] (eval (.Name x p) X.env)
      let iv ← holding [v, ov] (eval pk X.env)
      standAt sp
      holding [v, ov, iv] (setItem ov iv v)
      release [v, ov, iv] []) := by intro _; rfl)
    (hs : swapsWithSole [.Subscript (.Name x p) pk sp] e pos.line X.env = pure false := by rfl) (hw : swappedStores [.Subscript (.Name x p) pk sp] e X.env = pure none := by rfl) (h1 : (assignEach [.Subscript (.Name x p) pk sp] X.env).map (·.2) = [assign (.Subscript (.Name x p) pk sp) X.env] := by rfl) :
    PS X (.Assign [.Subscript (.Name x p) pk sp] e pos) (sD F (dSetAt i Tb Ta)) := PS.imp (ps_asg he (pg_sub hx hk set_list hA) hs hw h1) (by
  rintro De σ H ⟨N, env, Dd, f, hT, ok⟩
  refine ⟨N, env, _, f, hT, fun v H1 d e1 r q => ?_⟩
  split at q
  · rename_i xs hx
    have f1 := f.ext' e1
    obtain ⟨p, vs, s1, h2, h3, h4, h5⟩ := f1.slot i _ hx
    refine ⟨.ref p, s1, N, env, _, f1, q, fun kv H2 dk e2 r2 q2 => ?_⟩
    split at q2
    · split at q2
      · rename_i j _ n hn
        cases (show kv = .int j from r2)
        have f2 := f1.ext' e2
        have h4' : H2 p = some (.lst vs) := e2.keep p _ (fun z => h3 (f1.n.zin p z)) kp_lst h4
        have h5' := h5.ext e2 f1.n.z
        refine ⟨p, vs, j, n, rfl, rfl, h4', by rw [← h5.length]; exact hn, ?_⟩
        obtain ⟨f3, ev⟩ := f2.store hx s1 h2 h3 h4' (Reps.set (r.ext e2 f1.n.z) n h5')
        exact ok.nx _ _ _ _ f3 ((Evo.of f.n (e1.trans e2)).trans ev) q2
      · exact q2.elim
    · exact q2.elim
  · exact q.elim)
end
end DL
set_option Elab.async false
set_option linter.all false
set_option maxRecDepth 100000
set_option maxHeartbeats 2000000
/-! dicts as data; repr of all data; x[::-1] -/
namespace DL
open PySem PySem.Spec L2
open PyProof.Rows hiding St
/-- the table of modules is a dict of the top -/
def smB (K : PySem.W.Frag) : Bool := match K.lookup sysModules with
  | some ⟨.type "dict", _, _, _⟩ => true
  | _ => false
theorem sm_ne {K : PySem.W.Frag} {h : Heap} (X : K.In h) (c : smB K = true) {a : Addr} {o : Obj} (e : h.get? a = some o) (hc : o.cls = .type "list") : a ≠ sysModules := fun z => by
  subst z
  unfold smB at c
  split at c
  · rename_i d1 d2 d3 q
    have y := X _ _ q
    rw [e] at y
    have y2 := congrArg Obj.cls (Option.some.inj y)
    rw [hc] at y2
    exact absurd (show Value.type "list" = Value.type "dict" from y2) (by decide)
  · cases c
def keyP : Key → PyData
  | .inl i => .int i
  | .inr x => .str x
mutual
def plainR : D → Bool
  | .tup ds => plainRs ds
  | .lst ds => plainRs ds
  | .dct ks ds => decide (ks.length = ds.length) && plainRs ds
  | .deck => false
  | .ty _ => false
  | .kt _ => false
  | _ => true
def plainRs : List D → Bool
  | [] => true
  | d :: ds => plainR d && plainRs ds
end
theorem toPk_keys : ∀ {ks : List Key} {ds : List D}, ks.length = ds.length → (toPk ks ds).map (·.1) = ks.map keyP ∧ (toPk ks ds).map (·.2) = toPs ds
  | [], [], _ => ⟨rfl, rfl⟩
  | [], _ :: _, h => by cases h
  | _ :: _, [], h => by cases h
  | k :: ks, d :: ds, h => by
    obtain ⟨h1, h2⟩ := toPk_keys (ks := ks) (ds := ds) (by simpa using h)
    simp only [toPk, List.map_cons, h1, h2, toPs]
    refine ⟨?_, trivial⟩
    cases k <;> rfl
section
variable {X : Cx} {pins : List (Addr × Obj)} {σ : L2.St} {H : Hp} {s : Shared} {K : PySem.W.Frag} {Z : Zn} {N : Addr → Prop}
theorem pairs_reads {P : Program} {w : World} {h : Heap} : ∀ {es : List DictEntry} {ks : List Key} {vs : List V} {us : List (Key × Value)}, KV (ks.zip vs) us → ks.length = vs.length → Pairs (mixKind P w) es us → ReadsAll h (es.map (·.key)) (ks.map keyP) [] ∧ Vals vs (es.map (·.val))
  | es, [], [], us, kv, _, p => by
    cases kv
    cases p
    exact ⟨.nil, .nil⟩
  | es, [], _ :: _, us, kv, l, p => by cases l
  | es, _ :: _, [], us, kv, l, p => by cases l
  | es, k :: ks, v :: vs, us, kv, l, p => by
    rw [List.zip_cons_cons] at kv
    cases kv with
    | cons a b =>
      cases p with
      | cons p1 p2 p3 =>
        rename_i e es'
        obtain ⟨h1, h2⟩ := pairs_reads (h := h) b (by simpa using l) p3
        have a1 := a.1
        dsimp only at a1
        rw [← a1] at p1
        refine ⟨?_, .cons (by show L2.RelV v e.val; rw [p2]; exact a.2) h2⟩
        rcases keyIs_shape (show keyIs k e.key = true from p1) with ⟨i, t, rfl, e2⟩ | ⟨x, t, rfl, e2⟩
        · rw [List.map_cons, e2]
          exact ReadsAll.cons (as := []) (.int i t) h1
        · rw [List.map_cons, e2]
          exact ReadsAll.cons (as := []) (.str x t) h1
mutual
/-- data is read as the library reads it, dicts too -/
theorem Rep.reads (I : Inv X pins σ H s) (c : smB X.K = true) : ∀ (d : D) (v : V) (u : Value), plainR d = true → Rep X.K Z N H d v → RelV v u → ∃ as, Reads s.heap u (toP d) as ∧ sysModules ∉ as
  | .non, _, _, _, h, r => by
    cases (show _ = V.non from h)
    cases (show _ = Value.none from r)
    exact ⟨_, .none, by simp⟩
  | .bl b, _, _, _, h, r => by
    cases (show _ = V.bl b from h)
    cases (show _ = Value.bool b from r)
    exact ⟨_, .bool b, by simp⟩
  | .int i, _, _, _, h, r => by
    cases (show _ = V.int i from h)
    obtain ⟨t, rfl⟩ := (show ∃ t, _ = Value.int i t from r)
    exact ⟨_, .int i t, by simp⟩
  | .str x, _, _, _, h, r => by
    cases (show _ = V.str x from h)
    obtain ⟨t, rfl⟩ := (show ∃ t, _ = Value.str x t from r)
    exact ⟨_, .str x t, by simp⟩
  | .tup ds, _, u, p, h, r => by
    obtain ⟨a, vs, rfl, ra, rs⟩ := h
    cases (show u = Value.ref a from r)
    obtain ⟨its, rv, ⟨o, ho, hc, n, hd⟩, _⟩ := I.tuple (sqt_of ra)
    obtain ⟨as, hr, hn⟩ := Reps.reads I c ds vs its p rs rv
    exact ⟨as, .tuple ho hc hd (by simpa using hr), hn⟩
  | .lst ds, _, u, p, h, r => by
    obtain ⟨a, vs, rfl, na, ra, rs⟩ := h
    cases (show u = Value.ref a from r)
    obtain ⟨its, rv, ⟨o, n, ho, hc, _, hd⟩, _⟩ := I.list (SqL.of ra)
    obtain ⟨as, hr, hn⟩ := Reps.reads I c ds vs its p rs rv
    refine ⟨_, .list ho hc hd (by simpa using hr), fun z => ?_⟩
    rcases List.mem_cons.mp z with z | z
    · exact sm_ne I.kIn c ho hc z.symm
    · exact hn z
  | .dct ks ds, _, u, p, h, r => by
    obtain ⟨a, vs, rfl, na, ra, lk, rs⟩ := h
    cases (show u = Value.ref a from r)
    obtain ⟨p1, p2⟩ := Bool.and_eq_true_iff.mp p
    obtain ⟨z, hs, us, kv, o, es, ep, ho, hx, hd, _, hp, _⟩ := dk_of I.hok ra
    obtain ⟨h1, h2⟩ := pairs_reads (h := s.heap) kv lk hp
    obtain ⟨as, hr, hn⟩ := Reps.reads I c ds vs _ p2 rs h2
    obtain ⟨k1, k2⟩ := toPk_keys (of_decide_eq_true p1)
    refine ⟨_, .dict ho hx.1 hd (by rw [k1]; exact h1) (by rw [k2]; exact hr), fun y => ?_⟩
    rcases List.mem_append.mp y with y | y
    · rcases List.mem_cons.mp y with y | y
      · rw [y] at hs
        simp at hs
      · cases y
    · exact hn y
  | .deck, _, _, p, _, _ => by cases p
  | .ty _, _, _, p, _, _ => by cases p
  | .kt _, _, _, p, _, _ => by cases p
theorem Reps.reads (I : Inv X pins σ H s) (c : smB X.K = true) : ∀ (ds : List D) (vs : List V) (us : List Value), plainRs ds = true → Reps X.K Z N H ds vs → Vals vs us → ∃ as, ReadsAll s.heap us (toPs ds) as ∧ sysModules ∉ as
  | [], _, _, _, h, r => by
    cases h
    cases r
    exact ⟨_, .nil, by simp⟩
  | d :: ds, _, _, p, h, r => by
    obtain ⟨v, w, rfl, h1, h2⟩ := h
    obtain ⟨p1, p2⟩ := Bool.and_eq_true_iff.mp p
    cases r with
    | cons r1 r2 =>
      obtain ⟨as, q1, n1⟩ := Rep.reads I c d v _ p1 h1 r1
      obtain ⟨bs, q2, n2⟩ := Reps.reads I c ds w _ p2 h2 r2
      exact ⟨_, .cons q1 q2, fun z => (List.mem_append.mp z).elim n1 n2⟩
end
end
section
variable {X : Cx} {F : FP} {e : Expr} {es : List Expr} {pos : Pos} {Tas : TDA} {Ta Tb : TDE}
/-! ### repr -/
def showR (d : D) : Prop := plainR d = true ∧ (toP d).showable = true ∧ (toP d).depth ≤ 64 ∧ ((toP d).shown).length ≤ sizeLine
def gReprR : GA := fun xs Q => match xs with
  | [d] => showR d ∧ Q (.str (toP d).shown)
  | _ => False
def rReprR (K : PySem.W.Frag) : List V → Hp → VK → Prop := fun vs H Q => ∃ v d Z N, vs = [v] ∧ Rep K Z N H d v ∧ showR d ∧ Q (.str (toP d).shown) H
theorem cr_reprR (c : smB X.K = true) (hg : X.A.guards = some []) (hu : X.A.units + 80 < cLine) : CallR X (.builtin "repr") (rReprR X.K) := by
  intro pins s σ H vs us Q I r h
  obtain ⟨v, d, Z, N, rfl, rp, ⟨h0, h1, h3, h4⟩, q⟩ := h
  obtain ⟨u, rfl, rv⟩ := vals1 r
  obtain ⟨as, rd, na⟩ := Rep.reads I c d v u h0 rp rv
  generalize toP d = y at *
  cases rd with
  | none => exact PySem.P.repr_of_none ⟨.str _, H, I.tok _, ⟨_, rfl⟩, q⟩
  | bool b => exact PySem.P.repr_of_bool ⟨.str _, H, I.tok _, ⟨_, rfl⟩, q⟩
  | int i t => exact PySem.P.repr_of_int (of_decide_eq_true h1) ⟨.str _, H, I.tok _, ⟨_, rfl⟩, q⟩
  | str x t => exact PySem.P.repr_of_str ⟨.str _, H, I.tok _, ⟨_, rfl⟩, q⟩ h4
  | list e1 e2 e3 e4 =>
    exact repr_of_reads' (h₀ := s.heap) (.list e1 e2 e3 e4) h1 (fun _ => na) hg (by omega) (fun _ _ z => z) (fun h' u tk hk => ⟨.str _, H, I.kept (t' := tk) hk, ⟨_, rfl⟩, q⟩) h4
  | tuple e1 e2 e3 e4 =>
    exact repr_of_reads' (h₀ := s.heap) (.tuple e1 e2 e3 e4) h1 (fun _ => na) hg (by omega) (fun _ _ z => z) (fun h' u tk hk => ⟨.str _, H, I.kept (t' := tk) hk, ⟨_, rfl⟩, q⟩) h4
  | dict e1 e2 e3 e4 e5 =>
    exact repr_of_reads' (h₀ := s.heap) (.dict e1 e2 e3 e4 e5) h1 (fun _ => na) hg (by omega) (fun _ _ z => z) (fun h' u tk hk => ⟨.str _, H, I.kept (t' := tk) hk, ⟨_, rfl⟩, q⟩) h4
theorem cd_reprR : CallD F (rReprR F.K) gReprR := ⟨by
  intro N H vs ds Qd Q n r h k
  unfold gReprR at h
  split at h
  · rename_i d
    obtain ⟨v, r, rfl, h1, h2⟩ := r
    cases h2
    exact ⟨v, d, F.Z, N, rfl, h1, h.1, k _ _ _ Ext.refl rep_str h.2⟩
  · exact h.elim⟩
theorem d_reprR {p : Pos} (hK : F.K = X.K) (c : smB X.K = true) (hgd : X.A.guards = some []) (hu : X.A.units + 80 < cLine) (hg : Gl X "repr") (hm : X.mg "repr" = none) (ha : PA X (e :: es) (tDA F Tas))
    (he : starEach (e :: es) X.env = (false, eval e X.env) :: starEach es X.env := by rfl) (hpl : (backTo pos (starEach es X.env)).any (·.1) = false := by rfl) : PE X (.Call (.Name "repr" p) (e :: es) [] pos) (tD F (dCB gReprR Tas)) := by
  have z := cd_reprR (F := F)
  rw [hK] at z
  exact d_callB z (cr_reprR c hgd hu) hg hm (by decide +kernel) ha (by decide) (by decide) he hpl
/-! ### {}, {k: v} -/
theorem d_dict0 : PE X (.Dict [] [] pos) (tD F (dC (.dct [] []))) := PE.imp pe_dnewK (by
  rintro σ H Q ⟨N, env, Qd, f, hT, k⟩
  exact fun p hp => k _ _ (.dct [] []) (f.n.lay hp) ⟨p, [], rfl, f.n.fresh hp, upd_same, rfl, rfl⟩ hT)
def dDict1 (k : Key) (T : TDE) : TDE := fun ξ env Q => T ξ env fun d => Q (.dct [k] [d])
theorem d_dict1 {ke ve : Expr} {ky : Key} (hk : PE X ke (tC (kV ky))) (hv : PE X ve (tD F Ta)) : PE X (.Dict [some ke] [ve] pos) (tD F (dDict1 ky Ta)) := PE.imp (pe_disp (pps_cons hk hv pps_nil) rfl rfl (fun z => by cases z) (by show 1 ≤ 15; decide)) (by
  rintro σ H Q ⟨N, env, Qd, f, hT, k⟩
  intro p hp
  have np := f.n.fresh hp
  have fp := f.with (o := .dK []) kp_dk hp (f.nb hp)
  refine ⟨_, env, _, fp, hT, fun v H1 d e1 r1 q1 => ?_⟩
  have hp1 : H1 p = some (.dK []) := e1.keep p _ (fun z => np (f.n.z p z)) kp_dk upd_same
  refine ⟨hp1, [(ky, v)], rfl, (by show 1 ≤ 15; decide), ?_⟩
  have nz : ¬ InZ F.Z p := fun z => np (f.n.z p z)
  have ee : Ext F.Z H (upd H1 p (.dK (mergeK [] [(ky, v)]))) := by
    have e0 := (f.n.lay (o := .dK []) hp).trans e1
    refine ⟨fun q o n kp h => ?_, fun dk => ⟨fun a l ez => ?_, fun q hq => tab_upd hp1 kp_dk (fun _ h => by cases h) ((e0.deck dk).2 q hq)⟩⟩
    · rw [upd_ne (ne_of_none h hp)]
      exact e0.keep q o n kp h
    · obtain ⟨xs, m, c, k1, k2, k3⟩ := (e0.deck dk).1 a l ez
      exact ⟨xs, m, c, by rw [upd_ne (fun z => nz (by rw [← z]; exact ⟨a, l, ez, .inl rfl⟩))]; exact k1, by rw [upd_ne (fun z => nz (by rw [← z]; exact ⟨a, l, ez, .inr rfl⟩))]; exact k2, k3⟩
  refine k _ _ (.dct [ky] [d]) ee ⟨p, [v], rfl, np, ?_, rfl, v, [], rfl, ?_, rfl⟩ q1
  · rw [upd_same]
    rfl
  · refine Rep.mono (fun q o n kp h => ⟨?_, fun z => n (.inl z)⟩) d v r1
    rw [upd_ne (fun z => n (.inr z))]
    exact h)
/-! ### x[::-1] -/
section
variable {prog : Program} {w : World} {A : Around} {E : Value → Shared → Prop} {s : Shared}
theorem adjust_rev (n : Nat) : Builtin.Slice.sliceAdjust none none (-1) (n : Int) = ((n : Int) - 1, -1) := by
  unfold Builtin.Slice.sliceAdjust
  rfl
theorem places_rev (n : Nat) : Builtin.Slice.slicePlaces ((n : Int) - 1) (-1) (-1) = n := by
  unfold Builtin.Slice.slicePlaces
  rw [if_neg (by decide), show (- -1 : Int) = 1 by decide, Int.ediv_one]
  split <;> omega
theorem applied_rev {sl : Addr} {u : Tok} {n : Nat} {Q : Int × Int × Nat → Shared → Prop} (hs : s.heap.IsSliceOf sl .none .none (.int (-1) u)) (h : Q ((n : Int) - 1, -1, n) s) : wpAny (model prog w) A (Builtin.Slice.sliceApplied (.ref sl) (pure (n : Int))) Q E s := by
  obtain ⟨os, hos, hcs, hds⟩ := id hs
  unfold Builtin.Slice.sliceApplied Builtin.Slice.sliceFields
  refine wpAny_bind (wpAny_bind (wpAny_field hos hds (x := .none) rfl (wpAny_bind (wpAny_field hos hds (x := .none) rfl (wpAny_bind (wpAny_field hos hds (x := .int (-1) u) rfl (wpAny_pure ?_)))))))
  refine wpAny_bind (slicePart_int ?_)
  show wpAny _ _ (if ((-1 : Int) == 0) = true then _ else _) _ _ s
  rw [if_neg (by decide)]
  refine wpAny_bind (slicePart_none (wpAny_bind (slicePart_none (wpAny_bind (wpAny_pure ?_)))))
  show wpAny _ _ (match Builtin.Slice.sliceAdjust none none (-1) (n : Int) with | (lo, hi) => pure (lo, (-1 : Int), Builtin.Slice.slicePlaces lo hi (-1))) _ _ s
  rw [adjust_rev]
  show wpAny _ _ (pure ((n : Int) - 1, (-1 : Int), Builtin.Slice.slicePlaces ((n : Int) - 1) (-1) (-1))) _ _ s
  rw [places_rev]
  exact wpAny_pure h
theorem filterMap_on {α β : Type} {f g : α → Option β} : ∀ {l : List α}, (∀ m ∈ l, f m = g m) → l.filterMap f = l.filterMap g
  | [], _ => rfl
  | a :: l, h => by
    rw [List.filterMap_cons, List.filterMap_cons, h a List.mem_cons_self, filterMap_on fun m hm => h m (List.mem_cons_of_mem _ hm)]
theorem pick_rev (xs : Array Value) : ((List.range xs.size).filterMap fun (m : Nat) => xs[((xs.size : Int) - 1 + (m : Int) * (-1)).toNat]?).toArray = xs.toList.reverse.toArray := by
  congr 1
  have e : ((List.range xs.size).filterMap fun (m : Nat) => xs[((xs.size : Int) - 1 + (m : Int) * (-1)).toNat]?) = ((List.range xs.size).map fun m => xs.size - 1 - m).filterMap fun m => xs[m]? := by
    rw [List.filterMap_map]
    refine filterMap_on fun m hm => ?_
    have := List.mem_range.mp hm
    have e2 : ((xs.size : Int) - 1 + (m : Int) * (-1)).toNat = xs.size - 1 - m := by omega
    rw [e2]
    rfl
  rw [e, PySem.W.krv_range, List.filterMap_reverse, PySem.W.krv_all]
theorem getItem_tup_rev {t sl : Addr} {items : Array Value} {u : Tok} {Q : Value → Shared → Prop} (ht : IsTup s.heap t items) (hs : s.heap.IsSliceOf sl .none .none (.int (-1) u))
    (h : Q (.ref s.heap.objs.size) { s with heap := s.heap.push { cls := .type "tuple", data := .seq items.toList.reverse.toArray } }) (hsz : items.size ≤ sizeLine) : wpAny (model prog w) A (getItem (.ref t) (.ref sl)) Q E s := by
  have fits : sizeOk (.seq items.toList.reverse.toArray) := by
    show items.toList.reverse.toArray.size ≤ sizeLine
    simpa using hsz
  have hTs : s.TypeIs (.ref sl) "slice" := let ⟨os, hos, hcs, _⟩ := hs; ⟨os, hos, hcs⟩
  unfold getItem
  try with_reducible refine wpAny_holding ?_
  first | refine wpAny_bind (wpAny_pure ?_) | skip
  refine wpAny_bind (wpAny_sequenceKey ht.typeIs (by decide) ?_)
  refine wpAny_bind (wpAny_callSpecial?_slot (name := Str.ofString "__getitem__") ht.typeIs PyProof.Rows.slot_tuple_getitem (wpAny_call_entry PyProof.Rows.slot_tuple_getitem ht.typeIs entry_tuple_getitem ?_ (args_tuple_getitem _ _)))
  show wpAny _ _ (Builtin.Tuple.tupleItemsOf (.ref t) >>= _) _ _ s
  refine wpAny_bind (tupleItemsOf_ ht (wpAny_bind (wpAny_typeOf hTs ?_)))
  rw [if_pos (by decide)]
  refine wpAny_bind (applied_rev hs ?_)
  have no : ¬ ((((items.size : Int) - 1 == 0) && ((-1 : Int) == 1) && (items.size == items.size)) = true) := by
    intro q
    rw [Bool.and_eq_true, Bool.and_eq_true] at q
    exact absurd q.1.2 (by decide)
  show wpAny _ _ (if (((items.size : Int) - 1 == 0) && ((-1 : Int) == 1) && (items.size == items.size)) = true then _ else _) _ _ s
  rw [if_neg no, pick_rev]
  first
    | exact wpAny_bind (m := Builtin.Tuple.tupleExact _) (wpAny_newObj_type (wpAny_pure ⟨_, rfl, wpAny_pure h⟩) fits)
    | exact wpAny_bind (m := Builtin.Tuple.tupleExact _) (wpAny_newObj_type (wpAny_bind (wpAny_pure (wpAny_pure ⟨_, rfl, wpAny_pure h⟩))) fits)
    | exact wpAny_bind (wpAny_bind (m := Builtin.Tuple.tupleExact _) (wpAny_newObj_type (wpAny_pure (wpAny_pure ⟨_, rfl, wpAny_pure h⟩)) fits))
    | exact wpAny_bind (wpAny_bind (m := Builtin.Tuple.tupleExact _) (wpAny_newObj_type (wpAny_pure ⟨_, rfl, wpAny_pure h⟩) fits))
end
def tRevT (K : PySem.W.Frag) (te : TE) : TE := fun σ H Q => te σ H fun x H1 => ∃ a xs, x = .ref a ∧ SqT K H1 a xs ∧ ∀ p, H1 p = none → Q (.ref p) (upd H1 p (.tup xs.reverse))
theorem pe_revT {te : TE} {k : Nat} {p1 p2 p3 : Pos} (he : PE X e te) : PE X (.Subscript e (.Slice none none (some (.UnaryOp .USub (.Constant (.int 1) k p1) p2)) p3) pos) (tRevT X.K te) := by
  refine ⟨fun pins s σ H Q I h => ?_⟩
  refine Subscript_ (thn (he.run pins s σ H _ I h) fun v s1 ⟨x, H1, I1, r1, a, xs, ex, hx, q⟩ => ?_)
  subst ex
  cases r1
  have hst : PO X (some (.UnaryOp .USub (.Constant (.int 1) k p1) p2)) (tPart (tUn (rU fun i => .int (-i)) (tC (.int 1)))) := po_some (pe_un un_neg pe_int)
  refine wpAny_Slice (thn (po_none.run pins s1 σ H1 (fun o H2 => o = none ∧ H2 = H1) I1 ⟨rfl, rfl⟩) fun vl s2 ⟨l, H2, I2, pl, el, e2⟩ => thn (po_none.run pins s2 σ H2 (fun o H3 => o = none ∧ H3 = H2) I2 ⟨rfl, rfl⟩) fun vu s3 ⟨u, H3, I3, pu, eu, e3⟩ =>
    thn (hst.run pins s3 σ H3 (fun o H4 => o = some (-1) ∧ H4 = H3) I3 ⟨1, rfl, -1, rfl, rfl, rfl⟩) fun vs s4 ⟨o, H4, I4, ps, eo, e4⟩ => ?_)
  subst el e2 eu e3 eo e4
  cases pl
  cases pu
  obtain ⟨t, rfl⟩ : ∃ t, vs = Value.int (-1) t := by
    cases ps with
    | int i t => exact ⟨t, rfl⟩
  have I5 : L2.Inv X pins σ H4 { s4 with heap := s4.heap.push { cls := .type "slice", data := .fields #[.none, .none, .int (-1) t] } } := I4.kept (t' := s4.toks) fun b ob q => Heap.get?_push_of_some _ q
  obtain ⟨its, r, ht, hz⟩ := I5.tuple hx
  have hlen := r.length
  show wpAny (model X.prog X.w) X.A (subscriptTail e (.Slice none none (some (.UnaryOp .USub (.Constant (.int 1) k p1) p2)) p3) (.ref a) (.ref s4.heap.objs.size)) (EP X pins σ Q) X.xe { s4 with heap := s4.heap.push { cls := .type "slice", data := .fields #[.none, .none, .int (-1) t] } }
  refine tail_any (ops := [.ref a, .ref s4.heap.objs.size]) ht.typeIs (PyProof.Rows.slot_tuple_getitem.lookup) ?_ (by with_unfolding_all rfl)
  refine getItem_tup_rev ht (Heap.IsSliceOf.new _ _ _ _) ?_ (by rw [List.size_toArray]; omega)
  refine ⟨.ref _, _, I5.laid (t' := s4.toks) (o := .tup xs.reverse) (fun b ob q => Heap.get?_push_of_some _ q) (Nat.le_refl _) ?_, rfl, q _ (I5.hok.fresh (Nat.le_refl _))⟩
  exact ⟨by rw [List.length_reverse]; exact hz, its.reverse, r.reverse, _, Heap.get?_push_size _ rfl, rfl, 0, by simp⟩
def gRev : G1 := fun x Q => match x with
  | .tup ds => Q (.tup ds.reverse)
  | _ => False
theorem Reps.rev {K : PySem.W.Frag} {Z : Zn} {N : Addr → Prop} {H : Hp} : ∀ {ds : List D} {vs : List V}, Reps K Z N H ds vs → Reps K Z N H ds.reverse vs.reverse
  | [], _, h => by cases h; rfl
  | d :: ds, _, ⟨v, r, e, h1, h2⟩ => by
    subst e
    rw [List.reverse_cons, List.reverse_cons]
    exact (Reps.rev h2).snoc h1
/-- t[::-1] -/
theorem d_rev {k : Nat} {p1 p2 p3 : Pos} (hK : F.K = X.K) (he : PE X e (tD F Ta)) : PE X (.Subscript e (.Slice none none (some (.UnaryOp .USub (.Constant (.int 1) k p1) p2)) p3) pos) (tD F (dUn gRev Ta)) := PE.imp (pe_revT he) (by
  rintro σ H Q ⟨N, env, Qd, f, hT, kk⟩
  refine ⟨N, env, _, f, hT, fun x H1 d e1 r1 q1 => ?_⟩
  cases d <;> first | exact q1.elim | skip
  rename_i ds
  obtain ⟨a, vs, rfl, ra, rs⟩ := r1
  have n1 := (f.ext' e1).n
  exact ⟨a, vs, rfl, by rw [← hK]; exact sqt_of ra, fun p hp => kk _ _ (.tup ds.reverse) (e1.trans (n1.lay hp)) (rep_newT n1 hp rs.rev) q1⟩)
end
end DL
set_option Elab.async false
set_option linter.all false
set_option maxRecDepth 100000
set_option maxHeartbeats 2000000
/-! a lambda handed to a def that calls it, over data -/
namespace DL
open PySem PySem.Spec L2 LamX
open PyProof.Rows hiding St
theorem PE.exP {X : Cx} {e : Expr} {α : Sort _} {t : α → TE} (h : ∀ i, PE X e (t i)) : PE X e (fun σ H Q => ∃ i, t i σ H Q) := ⟨fun pins s σ H Q I ⟨i, q⟩ => (h i).run pins s σ H Q I q⟩
theorem PE.andP {X : Cx} {e : Expr} {p : Prop} {t : TE} (h : p → PE X e t) : PE X e (fun σ H Q => p ∧ t σ H Q) := ⟨fun pins s σ H Q I ⟨i, q⟩ => (h i).run pins s σ H Q I q⟩
theorem takes_lam {X : Cx} {A : Around} {outer : List Env} {s : Shared} {H : Hp} {E : XK} {scope : Scope} {f c' : Addr} : Takes (lamCx X A outer s H E scope f c') (fun c od _ H' => E c od H') := takes_of rfl rfl rfl rfl
/-- the maker's names, seen from the lambda: no list of the maker's own -/
def hide (env : SE) : SE := env.map fun s => match s with
  | .own _ => .un
  | s => s
theorem hide_get {env : SE} {i : Nat} {s : Slot} (h : (hide env)[i]? = some s) : s = .un ∨ (env[i]? = some s ∧ ∀ xs, s ≠ .own xs) := by
  unfold hide at h
  rw [List.getElem?_map] at h
  cases q : env[i]? with
  | none => rw [q] at h; cases h
  | some u =>
    rw [q] at h
    cases u with
    | own xs => cases h; exact .inl rfl
    | un => cases h; exact .inl rfl
    | d x => cases h; exact .inr ⟨rfl, fun xs z => by cases z⟩
    | raw v => cases h; exact .inr ⟨rfl, fun xs z => by cases z⟩
def dHole (v : V) (Tl : TDE) (env : SE) : TDE := fun ξ env' Q => env'[0]? = some (.raw v) ∧ Tl (fun x _ => ξ x env') (hide env) Q
def dLam (n : Nat) (Tt : TDE → TDS) (Tl : TDE) : TDE := fun _ env Q => ∀ v, Tt (dHole v Tl env) (fun _ _ => False) { nx := fun _ => Q .non, rt := Q } (.raw v :: List.replicate (n - 1) .un)
section
variable {X : Cx} {pins : List (Addr × Obj)} {σ : L2.St} {H : Hp} {s : Shared}
/-- the call of what was handed over -/
theorem pe_hole {Eg : XK} {Ng : List Str} {qg : Str} {sg : Scope} {g f c' : Addr} {cdg pm ctv : Value} {params : Arguments} {body : Expr} {scope : Scope} {k i : Nat} {a : Str} {pn : List (Addr × Obj)} {xe : Value → Shared → Prop} {W : WX} {tb : XK → TE} {p1 p2 : Pos} {CXg : CXT}
    (J : Inv X pins σ H s) (L : LamS X.env.scope scope) (ob : s.heap.get? f = some (PySem.W.kla_obj "<lambda>" (X.env.qual ++ "<lambda>") params body scope (cloFrom X.env.cells scope.names []) pm c' ctv)) (fr1 : H f = none) (fr2 : f ∉ frs X.stack)
    (bnd : bindArgs (PySem.W.kla_fn "<lambda>" (X.env.qual ++ "<lambda>") params body scope (cloFrom X.env.cells scope.names []) pm (.ref c') ctv) ⟨[], []⟩ = pure []) (room : RoomG (k + 1) (X.A.deeper (envOfC qg sg s.heap.objs.size g cdg)))
    (run : ∀ (A : Around) (outer : List Env) (s : Shared) (H : Hp) (E : XK), RoomG k (A.deeper (lamEnv X scope s.heap.objs.size f c')) → PE (lamCx X A outer s H E scope f c') body (tb E))
    (tk : Takes ((cxOf CXg X.prog X.w X.K X.mg X.base Ng qg sg g cdg X.A X.stack s H Eg).tr pn xe) W) (at_ : Ng[i]? = some a) (vis : Vis sg a) (nd : (a == ("__debug__" : Str)) = false) (nc : (a == ("__classdict__" : Str)) = false) :
    PE ((cxOf CXg X.prog X.w X.K X.mg X.base Ng qg sg g cdg X.A X.stack s H Eg).tr pn xe) (.Call (.Name a p1) [] [] p2)
      (fun σZ HZ Q => σZ[i]? = some (some (.ref f)) ∧ HZ c' = some (CodeO c' (X.env.qual ++ "<lambda>")) ∧ tb (WE W σZ) σ HZ Q) := by
  constructor
  rintro pinsZ sZ σZ HZ Q IZ ⟨atf, code, wish⟩
  refine wpAny_Call_Name_kw (thn ((pe_var (pos := p1) (i := i) at_ vis nd nc).run pinsZ sZ σZ HZ (fun v H1 => v = .ref f ∧ H1 = HZ) IZ ⟨.ref f, atf, rfl, rfl⟩) ?_)
  rintro u s1 ⟨v, H1, I1, r1, rfl, rfl⟩
  obtain rfl : u = Value.ref f := r1
  have still := I1.base.keep f _ ob fr1 fr2 (by intro z; cases z)
  refine PySem.W.callWith_F0 ⟨_, _, _, _, still⟩ ?_
  have grown : Un (frs X.stack) [] H H1 s.heap s1.heap := I1.base
  obtain ⟨⟨oc, vs, t, co1, co2, co3⟩, _, _⟩ := I1.hok c' _ code
  have ran : codeAny (model X.prog X.w) (X.A.deeper (envOfC qg sg s.heap.objs.size g cdg)) (.call (.ref f) ⟨[], []⟩) (CR (L2.CX X.prog X.w) (envOfC qg sg s.heap.objs.size g cdg :: X.stack) X.prog X.w H1 s1 Q (WE W σZ)) s1 := by
    refine PySem.W.kla_callFunE room.r.depth still rfl L.co L.gen rfl ⟨c', oc, vs, t, rfl, co1, co2, co3⟩ ?_
    rw [bnd]
    refine wpAny_pure (wpAny_newFunctionEnv (fun y hy => (L.own y hy).2) (by intro y hy; cases hy) ?_ L.kind)
    intro h₁ hns more
    refine ⟨I1.nolimit.fresh _ more, ?_⟩
    show codeAny _ _ (.expr body (lamEnv X scope s1.heap.objs.size f c')) _ _
    have kept : ∀ b o, s1.heap.get? b = some o → h₁.get? b = some o := fun b o e => more.extBut b o (Nat.ne_of_lt (Heap.lt_size e)) (Heap.get?_push_of_some _ e)
    have J2 : Inv (lamCx X (X.A.deeper (envOfC qg sg s.heap.objs.size g cdg)) (envOfC qg sg s.heap.objs.size g cdg :: X.stack) s1 H1 (WE W σZ) scope f c') [] σ H1 { s1 with heap := h₁, toks := s1.toks + 0 } :=
      lam_start2 J L I1.env0 room.r.hd grown hns kept
    refine PySem.W.kla_codeExpr (wpAny_mono ((run _ _ s1 H1 (WE W σZ) ⟨room.r.deeper _, guards_deeper room.g⟩).run [] _ _ H1 Q J2 wish) ?_ fun e s' z => z)
    rintro v s' ⟨v', H', J', rv, q⟩
    exact ⟨v', H', J'.os, J'.bare, J'.base, J'.hok, rv, q⟩
  have pas := passAt tk σZ
  refine wpAny_call (codeAny_mono ran ?_)
  rintro (e | fl) s' z
  · exact pas pinsZ H1 s1 e s' I1 z
  · cases fl with
    | ret u => exact I1.after z
    | next => exact z
    | brk => exact z
    | cont => exact z
end
section
variable {X : Cx} {F : FP}
theorem codeO_kp {c : Addr} {q : Str} : Kp (CodeO c q) := fun ps => codeO_ne ps
/-- f(lambda: body), where f calls it and lets nothing out -/
theorem d_lam {x a : Str} {g c P : Addr} {k : Nat} {pg : Arguments} {bg : List Stmt} {sg : Scope} {fdg : FuncData} {Ng : List Str} {params : Arguments} {body : Expr} {scope : Scope} {Tl : TDE} {Tt : TDE → TDS} {p lpos pos : Pos}
    (hK : F.K = X.K) (glo : Gl X x) (hm : X.mg x = some (.ref g)) (hk : PySem.W.keepIn X.K (.ref g) = true) (Fg : FunD X.K x x pg bg sg [] [] g fdg) (bb : Binds X.K fdg [a] []) (Sg : FnScope Ng [a] sg) (at_ : Ng[0]? = some a) (vis : Vis sg a)
    (told : ∀ (cdv : Value) (s : Shared) (H : Hp) (F2 : FP) (Th : TDE), F2.K = X.K → F2.ex = (fun _ _ => False) → RoomG (k + 1) (X.A.deeper (envOfC x sg s.heap.objs.size g cdv)) →
      (∀ (W : WX) (pn : List (Addr × Obj)) (xe : Value → Shared → Prop) (F' : FP) (p1 p2 : Pos), Takes ((cxOf CX0 X.prog X.w X.K X.mg X.base Ng x sg g cdv X.A X.stack s H E0).tr pn xe) W → Sub F2 F' → WOk F' W →
        PE ((cxOf CX0 X.prog X.w X.K X.mg X.base Ng x sg g cdv X.A X.stack s H E0).tr pn xe) (.Call (.Name a p1) [] [] p2) (tD F' Th)) →
      PSs (cxOf CX0 X.prog X.w X.K X.mg X.base Ng x sg g cdv X.A X.stack s H E0).nox bg (sD F2 (Tt Th)))
    (TB : TabB X.base X.mg c P) (code : X.env.code = .ref c) (mem : (P, X.env.qual ++ "<lambda>") ∈ tabsOf X.K) (uni : ∀ p ∈ tabsOf X.K, p.1 = P → p.2 = X.env.qual ++ "<lambda>") (room : RoomG (k + 2) X.A) (L : LamS X.env.scope scope) (defs : defaultsOf params X.env = ([], []))
    (bnd : ∀ (q : Str) (cl : List (Str × Addr)) (pm cv ctv : Value), bindArgs (PySem.W.kla_fn "<lambda>" q params body scope cl pm cv ctv) ⟨[], []⟩ = pure [])
    (run : ∀ (A : Around) (outer : List Env) (s : Shared) (H : Hp) (E : XK) (f c' : Addr) (F' : FP), F'.K = X.K → WOk F' (fun c od _ H' => E c od H') → RoomG k (A.deeper (lamEnv X scope s.heap.objs.size f c')) → PE (lamCx X A outer s H E scope f c') body (tD F' Tl))
    (ndx : (x == ("__debug__" : Str)) = false := by decide) (nd : (a == ("__debug__" : Str)) = false := by decide) (nc : (a == ("__classdict__" : Str)) = false := by decide) :
    PE X (.Call (.Name x p) [.Lambda params body scope lpos] [] pos) (tD F (dLam Ng.length Tt Tl)) := by
  constructor
  rintro pins s σ H Q I ⟨N, env, Qd, fk, hT, kk⟩
  refine wpAny_Call_Name_kw (ld_glob I glo hm (PySem.W.callWith_K (h₀ := X.base) I.ok.mod.kin hk ?_ (by rfl) (by rfl)) ndx)
  show wpAny _ _ (spliced ((false, eval (.Lambda params body scope lpos) X.env) :: backTo pos (starEach [] X.env))) _ _ s
  have tabs : Tabs (tabsOf X.K) H := by
    have z := fk.n.deck.2
    rwa [fk.n.tb, hK] at z
  refine Calls.spliced_cons (lam_make2 I TB code mem uni tabs defs (L.has I.ok) ?_)
  intro f c' pm' ctv H1 s' I1 eN T1 ob fr1 fr2 hco
  refine Calls.spliced_nil ⟨I1.kIn, ?_⟩
  have e : Ext F.Z H H1 := ⟨fun q o _ kp h => eN q o h kp, fun dk => ⟨fun b l z => by
    obtain ⟨xs, m, n, h1, h2, h3⟩ := dk.1 b l z
    exact ⟨xs, m, n, eN _ _ h1 kp_dk, eN _ _ h2 kp_lst, h3⟩, by rw [fk.n.tb, hK]; exact T1⟩⟩
  have f1 := fk.ext' e
  obtain ⟨oc, od, dV, kV, doc, pm, an, cdv, ct, osl, efd, lk, hcd, _, _⟩ := Fg.ex
  subst efd
  have ran : codeAny (model X.prog X.w) X.A (.call (.ref g) ⟨[.ref f], []⟩) (CR CX0 X.stack X.prog X.w H1 s' Q E0) s' := by
    refine run_ofS (N := Ng) (ps := [a]) (us := [.ref f]) (vs := [.ref f]) lk hcd Sg room.r I1.env0 (bb s' [.ref f] I1.kIn rfl) (.cons rfl .nil) rfl fun r2 => ?_
    have room2 : RoomG (k + 1) (X.A.deeper (envOfC x sg s'.heap.objs.size g cdv)) := ⟨r2, guards_deeper room.g⟩
    refine ⟨_, (told cdv s' H1 ⟨F.K, F.Z, N, H1, fun _ _ => False, N, H1⟩ (dHole (.ref f) Tl env) hK rfl room2 ?_).nox, N, _, _, ⟨⟨f1.n.deck, .refl, fun _ z => z, f1.n.z, f1.n.all, fun _ h n => (n h).elim, .refl, f1.n.tb⟩, ?_, ?_, ?_⟩, hT (.ref f), ?_⟩
    · intro W pn xe F' p1 p2 tk sub wo
      have hk' : F'.K = X.K := sub.k.trans hK
      refine PE.imp (pe_hole (i := 0) (tb := fun E σ H Q => ∃ Fe : FP, (Fe.K = X.K ∧ WOk Fe (fun c od _ H' => E c od H')) ∧ tD Fe Tl σ H Q) I1 L ob fr1 fr2 (bnd _ _ _ _ _) room2 (fun A outer s H E r3 => PE.exP fun Fe => PE.andP fun z => run A outer s H E f c' Fe z.1 z.2 r3) tk at_ vis nd nc) ?_
      rintro σZ HZ Q2 ⟨N', env', Qd', f', ⟨h0, hl⟩, k'⟩
      refine ⟨f'.slot 0 _ h0, ?_, ⟨F'.K, F'.Z, N', HZ, fun x _ => F'.ex x env', N', HZ⟩, ⟨hk', ?_⟩, N', hide env, Qd', ⟨⟨f'.n.deck, .refl, fun _ z => z, f'.n.z, f'.n.all, fun _ h n => (n h).elim, .refl, f'.n.tb⟩, ?_, ?_, ?_⟩, hl, k'⟩
      · have z1 := f'.n.ext
        rw [sub.h, sub.z] at z1
        refine z1.keep c' _ ?_ codeO_kp hco
        rintro ⟨b, l, z, q⟩
        obtain ⟨xs, m, n, h1, h2, h3⟩ := f1.n.deck.1 b l z
        unfold CodeO at hco
        rcases q with q | q <;> rw [q] at hco
        · rw [h1] at hco; cases hco
        · rw [h2] at hco; cases hco
      · intro N3 σ3 H3 env3 y cl od f3 xr hx
        exact wo N' σZ H3 env' y cl od (f'.ext' f3.n.ext) (xr.less f3.n.sub) hx
      · rw [show (hide env).length = env.length from List.length_map _]
        exact fk.len
      · intro i sl hs
        rcases hide_get hs with rfl | ⟨h4, h5⟩
        · trivial
        · have z := f1.slot i sl h4
          have ev : Evo N H1 N' HZ := Evo.trans sub.g f'.n.gr
          cases sl with
          | un => trivial
          | own xs => exact (h5 xs rfl).elim
          | raw v => exact z
          | d y =>
            obtain ⟨v, z1, z2⟩ := z
            refine ⟨v, z1, ?_⟩
            show Rep F'.K F'.Z N' HZ y v
            rw [sub.k, sub.z]
            exact Rep.mono ev y v z2
      · intro i j q xs ys _ h4
        rcases hide_get h4 with z | ⟨_, z⟩
        · cases z
        · exact (z xs rfl).elim
    · obtain ⟨n, hn⟩ : ∃ n, Ng.length = n + 1 := ⟨Ng.length - 1, by have := (List.getElem?_eq_some_iff.mp at_).1; omega⟩
      simp [L2.start, hn]
    · intro i sl hs
      match i, hs with
      | 0, hs =>
        cases hs
        rfl
      | i + 1, hs =>
        have z : sl = .un := (List.mem_replicate.mp (List.mem_of_getElem? (show (List.replicate (Ng.length - 1) Slot.un)[i]? = some sl from hs))).2
        subst z
        trivial
    · intro i j q xs ys _ h4
      match i, h4 with
      | 0, h4 => cases h4
      | i + 1, h4 => cases (List.mem_replicate.mp (List.mem_of_getElem? (show (List.replicate (Ng.length - 1) Slot.un)[i]? = some (.own xs) from h4))).2
    · exact ⟨fun N' σ' H' env' f' _ q => kk _ _ _ (e.trans f'.n.ext) rep_non q, fun v H' d e' r' q => kk v H' d (e.trans e') r' q, fun _ _ _ _ _ _ q => q.elim, fun _ _ _ _ _ _ q => q.elim⟩
  refine wpAny_call (codeAny_mono ran ?_)
  rintro (er | fl) s2 z
  · exact (show False from z).elim
  · cases fl with
    | ret u => exact I1.after z
    | next => exact z
    | brk => exact z
    | cont => exact z
end
section
variable {P : Program} {w : World} {K : PySem.W.Frag} {mg : Str → Option Value} {base : Heap} {k : Nat} {f : Addr} {fd : FuncData} {N ps : List Str}
/-- a def that lets nothing out and makes lambdas: its code object is told -/
theorem fng_dataC {x qual n : Str} {params : Arguments} {body : List Stmt} {scope : Scope} {dvs : List V} {kws : List (Str × V)} {T : TDS} (Fd : FunD K x qual params body scope dvs kws f fd) (S : FnScope N ps scope) (ef : f = He.fAd K (n, none))
    (hb : ∀ (cdv : Value) (A : Around) (outer : List Env) (s : Shared) (H : Hp) (E : XK) (F : FP), F.K = K → F.ex = (fun _ _ => False) → RoomG k (A.deeper (envOfC qual scope s.heap.objs.size f cdv)) → cdv = .ref (He.cT K (n, none)).1 →
      PSs (cxOf CX0 P w K mg base N qual scope f cdv A outer s H E).nox body (sD F T)) : FnG P w K mg base CX0 (k + 1) f fd ps (spD K ps.length fun _ ds Q => tfOf N.length T (fun _ => False) ds Q) := by
  refine fng_ofC Fd S ?_ ?_
  · rintro vs H Q E ⟨Z, B, ds, Qd, Ed, b, r, hl, _⟩
    rw [← r.length, hl]
  rintro cdv A outer s H vs Q E room ⟨hcd, hcv⟩ ⟨Z, B, ds, Qd, Ed, b, r, hl, hT, hq, _⟩
  have key : cdv = .ref (He.cT K (n, none)).1 := by
    obtain ⟨c, rfl⟩ := He.codeIn_ref hcd
    obtain ⟨oc, od, dV, kV, doc, pm, an, cdv', ct, osl, efd, lk, _, _, _⟩ := Fd.ex
    subst ef
    rw [show (He.cT K (n, none)).1 = He.codeOf K (n, none) from rfl, He.codeOf_eq (p := (n, none)) lk hcv]
  refine ⟨_, (hb cdv A outer s H E ⟨K, Z, B, H, fun _ _ => False, B, H⟩ rfl rfl room key).nox, ?_⟩
  exact ⟨B, _, _, start_ok b r, hT, ⟨fun N' σ' H' env' f' _ q => hq _ _ _ f'.n.ext rep_non q, fun v H' d e r' q => hq v H' d e r' q, fun _ _ _ _ _ _ q => q.elim, fun _ _ _ _ _ _ q => q.elim⟩⟩
end
section
variable {X : Cx} {F : FP} {a e elt iter : Expr} {ifs : List Expr} {scope : Scope} {own : List (Str × Nat)} {pos p pos' spos py : Pos} {tg : Expr} {Ta : TDE} {Tas : TDA} {tt : TDT} {te : TDE} {i j : Nat} {y : Str}
theorem setLc_imp {T : TDE} {ta : TE} (h : ∀ σ H Q, tD F T σ H Q → ta σ H Q) : ∀ De σ H, sD F (dAsg T (dgName i)) De σ H → tAsg ta (gName i) De σ H := by
  rintro De σ H ⟨N, env, Dd, f, hT, ok⟩
  exact h _ _ _ ⟨N, env, _, f, hT, fun v H' d e1 r q => ok.nx _ _ _ _ ((f.ext' e1).set i r) (.of f.n e1) q⟩
/-- y = [.. for .. in range(n)], on one line, y no cell -/
theorem ds_setLcR (hK : F.K = X.K) (hc : X.calm = true) (hN : X.N.Nodup) (hgl : Gl X "range") (hm : X.mg "range" = none) (ha : PA X [a] (tDA F Tas)) (ok : BlkOk X.N X.env.scope scope own) (hv : own.map (·.2) = [j]) (hy : X.N[i]? = some y) (hyl : X.env.scope.names.lookup y = some .local)
    (hsw : swapsWith (.ListComp elt [⟨tg, .Call (.Name "range" p) [a] [] pos', ifs, 0⟩] scope pos) (some (.Name y py)) spos.line X.env = pure true)
    (hg : ∀ (s : Shared) (H : Hp) (C : Addr) (cl : List (Str × Addr)) (fp : List Addr), PG (X.blk s H scope (compEnvC scope cl C X.env) fp) tg (gName j)) (ht : ∀ (s : Shared) (H : Hp) (C : Addr) (cl : List (Str × Addr)) (fp : List Addr), PTs (X.blk s H scope (compEnvC scope cl C X.env) fp) ifs (tDT F.calm tt))
    (he : ∀ (s : Shared) (H : Hp) (C : Addr) (cl : List (Str × Addr)) (fp : List Addr), PE (X.blk s H scope (compEnvC scope cl C X.env) fp) elt (tD F.calm te)) (hsa : starEach [a] X.env = [(false, eval a X.env)] := by rfl) (hs : ∀ x, foldedSetIterable (.Call (.Name "range" p) [a] [] pos') X.env x = pure x := by intro _; rfl) :
    PS X (.Assign [.Name y py] (.ListComp elt [⟨tg, .Call (.Name "range" p) [a] [] pos', ifs, 0⟩] scope pos) spos) (sD F (dAsg (dLcR Tas j tt te) (dgName i))) := by
  have z := ps_setLc hc hN hy hyl hsw (pi_range1 hgl hm ha hsa) ok hg ht he hs
  rw [hv] at z
  exact PS.imp z (setLc_imp lcR_imp)
theorem ds_setLcL (hK : F.K = X.K) (hc : X.calm = true) (hN : X.N.Nodup) (hi : PE X iter (tD F Ta)) (ok : BlkOk X.N X.env.scope scope own) (hv : own.map (·.2) = [j]) (hy : X.N[i]? = some y) (hyl : X.env.scope.names.lookup y = some .local)
    (hsw : swapsWith (.ListComp elt [⟨tg, iter, ifs, 0⟩] scope pos) (some (.Name y py)) spos.line X.env = pure true)
    (hg : ∀ (s : Shared) (H : Hp) (C : Addr) (cl : List (Str × Addr)) (fp : List Addr), PG (X.blk s H scope (compEnvC scope cl C X.env) fp) tg (gName j)) (ht : ∀ (s : Shared) (H : Hp) (C : Addr) (cl : List (Str × Addr)) (fp : List Addr), PTs (X.blk s H scope (compEnvC scope cl C X.env) fp) ifs (tDT F.calm tt))
    (he : ∀ (s : Shared) (H : Hp) (C : Addr) (cl : List (Str × Addr)) (fp : List Addr), PE (X.blk s H scope (compEnvC scope cl C X.env) fp) elt (tD F.calm te)) (hs : ∀ x, foldedSetIterable iter X.env x = pure x := by intro _; rfl) :
    PS X (.Assign [.Name y py] (.ListComp elt [⟨tg, iter, ifs, 0⟩] scope pos) spos) (sD F (dAsg (dLc Ta j tt te) (dgName i))) := by
  have z := ps_setLc hc hN hy hyl hsw (pi_list hi) ok hg ht he hs
  rw [hv] at z
  exact PS.imp z (setLc_imp (by rw [← hK]; exact lc_imp))
theorem ds_setLcT (hK : F.K = X.K) (hc : X.calm = true) (hN : X.N.Nodup) (hi : PE X iter (tD F Ta)) (ok : BlkOk X.N X.env.scope scope own) (hv : own.map (·.2) = [j]) (hy : X.N[i]? = some y) (hyl : X.env.scope.names.lookup y = some .local)
    (hsw : swapsWith (.ListComp elt [⟨tg, iter, ifs, 0⟩] scope pos) (some (.Name y py)) spos.line X.env = pure true)
    (hg : ∀ (s : Shared) (H : Hp) (C : Addr) (cl : List (Str × Addr)) (fp : List Addr), PG (X.blk s H scope (compEnvC scope cl C X.env) fp) tg (gName j)) (ht : ∀ (s : Shared) (H : Hp) (C : Addr) (cl : List (Str × Addr)) (fp : List Addr), PTs (X.blk s H scope (compEnvC scope cl C X.env) fp) ifs (tDT F.calm tt))
    (he : ∀ (s : Shared) (H : Hp) (C : Addr) (cl : List (Str × Addr)) (fp : List Addr), PE (X.blk s H scope (compEnvC scope cl C X.env) fp) elt (tD F.calm te)) (hs : ∀ x, foldedSetIterable iter X.env x = pure x := by intro _; rfl) :
    PS X (.Assign [.Name y py] (.ListComp elt [⟨tg, iter, ifs, 0⟩] scope pos) spos) (sD F (dAsg (dLcT Ta j tt te) (dgName i))) := by
  have z := ps_setLc hc hN hy hyl hsw (pi_tup hi) ok hg ht he hs
  rw [hv] at z
  exact PS.imp z (setLc_imp (by rw [← hK]; exact lcT_imp))
end
end DL
set_option Elab.async false
set_option linter.all false
set_option maxRecDepth 100000
set_option maxHeartbeats 2000000
/-! is None; facts; the head with tables -/
namespace DL
open PySem PySem.Spec L2 LamX
open PyProof.Rows hiding St
section
variable {X : Cx} {F : FP} {a b : Expr} {Ta Tb : TDE} {pos : Pos}
def isNo : D → Bool
  | .non => true
  | _ => false
def gIsN : G2 := fun x y Q => match y with
  | .non => Q (.bl (isNo x))
  | _ => False
theorem isNo_rep {K : PySem.W.Frag} {Z : Zn} {N : Addr → Prop} {H : Hp} {d : D} {v : V} (r : Rep K Z N H d v) : decide (v = V.non) = isNo d := by
  cases d with
  | non => rw [show v = V.non from r]; rfl
  | bl b => rw [show v = V.bl b from r]; rfl
  | int b => rw [show v = V.int b from r]; rfl
  | str b => rw [show v = V.str b from r]; rfl
  | tup ds => obtain ⟨p, vs, rfl, _⟩ := r; rfl
  | lst ds => obtain ⟨p, vs, rfl, _⟩ := r; rfl
  | dct ks ds => obtain ⟨p, vs, rfl, _⟩ := r; rfl
  | deck => obtain ⟨p, l, _, rfl⟩ := r; rfl
  | ty n => rw [show v = V.ty n from r]; rfl
  | kt ds => obtain ⟨p, vs, o, rfl, _⟩ := r; rfl
theorem opd_isN : OpD F (fun x y H Q => y = .non ∧ Q (.bl (decide (x = .non))) H) gIsN := ⟨by
  intro N H x y dx dy Qd Q n rx ry h k
  unfold gIsN at h
  split at h
  · refine ⟨ry, ?_⟩
    rw [isNo_rep rx]
    exact k _ _ _ Ext.refl rep_bl h
  · exact h.elim⟩
theorem d_isn (ha : PE X a (tD F Ta)) (hb : PE X b (tD F Tb)) (hm : behindInMarks .Is b = false := by rfl) : PE X (.Compare a [.Is] [b] pos) (tD F (dBin gIsN Ta Tb)) := d_cmp op_isN opd_isN ha hb hm
theorem dt_isn (ha : PE X a (tD F Ta)) (hb : PE X b (tD F Tb)) (hm : behindInMarks .Is b = false := by rfl) : PT X (.Compare a [.Is] [b] pos) (tDT F (dTest (dBin gIsN Ta Tb))) := dt_cmp op_isN opd_isN ha hb hm
end
section
variable {X : Cx} {F : FP} {a : Expr} {Ta : TDE}
/-- an int or a bool as a test -/
def truI : D → Option Bool
  | .bl b => some b
  | .int i => some (i != 0)
  | _ => none
def dTruI (T : TDE) : TDT := fun ξ env Q => T ξ env fun d => match truI d with
  | some b => Q b
  | none => False
theorem dt_tru (ha : PE X a (tD F Ta)) (he : ∀ whole, isTrue a X.env whole = (do let v ← whole; standAt a.pos; holding [v] (truthy v)) := by intro _; rfl) : PT X a (tDT F (dTruI Ta)) := PT.imp (pt_truth ha he) (by
  rintro σ H Q ⟨N, env, Qd, f, hT, k⟩
  refine ⟨N, env, _, f, hT, fun v H1 d e1 r q => ?_⟩
  unfold truI at q
  cases d <;> first | exact q.elim | skip
  · rename_i b
    exact ⟨b, by rw [show v = V.bl b from r]; exact rfl, k _ _ e1 q⟩
  · rename_i i
    exact ⟨_, by rw [show v = V.int i from r]; exact rfl, k _ _ e1 q⟩)
end
/-! ### facts -/
def exisB (K : PySem.W.Frag) (n : Str) : Bool := match PySem.W.nsIn K mainGlobals n with
  | some (some (.ref C)) => xfB K C && (PySem.W.clsIn K C).isSome && decide (PySem.W.findIn K (.ref C) "__class__" = some (some (.builtin "object.__class__"))) && decide (PySem.W.specialIn K (.builtin "object.__class__") "__get__" = some (some (.builtin "getset_descriptor.__get__"))) &&
    decide (PySem.W.takesIn K (.builtin "object.__class__") = some true) && decide (PySem.W.mroIn K C (.type "object") = some true)
  | _ => false
theorem exis_ok {K : PySem.W.Frag} {n : Str} (c : exisB K n = true) : ∃ C, clsAt K n = .ref C ∧ ExIs K C := by
  unfold exisB at c
  split at c
  · rename_i C e
    simp only [Bool.and_eq_true, decide_eq_true_eq] at c
    obtain ⟨⟨⟨⟨⟨c1, c2⟩, c3⟩, c4⟩, c5⟩, c6⟩ := c
    exact ⟨C, by unfold clsAt; rw [e], xfB_ok c1, c2, c3, c4, c5, c6⟩
  · cases c
def refB (K : PySem.W.Frag) (n : Str) : Bool := match PySem.W.nsIn K mainGlobals n with
  | some (some (.ref _)) => true
  | _ => false
theorem ref_ok {K : PySem.W.Frag} {h : Heap} {mg : Str → Option Value} (X : K.In h) (G : h.Ns mainGlobals mg) {n : Str} (c : refB K n = true) : ∃ a, clsAt K n = .ref a ∧ mg n = some (.ref a) := by
  unfold refB at c
  split at c
  · rename_i a e
    exact ⟨a, by unfold clsAt; rw [e], PySem.W.mg_of X G e⟩
  · cases c
def initOf (s : Stmt) : Stmt := match s with
  | .ClassDef _ _ _ body _ _ _ _ _ _ _ => body.getD 0 s
  | s => s
theorem fng_false {P : Program} {w : World} {K : PySem.W.Frag} {mg : Str → Option Value} {base : Heap} {CX : CXT} {k : Nat} {f : Addr} {fd : FuncData} {ps : List Str} {m : Nat} : FnG P w K mg base CX k f fd ps (spD K m fun _ _ _ => False) :=
  ⟨fun _ _ _ _ ⟨_, _, _, _, _, _, _, _, h, _⟩ => h.elim, fun _ _ _ _ _ _ _ _ _ _ _ _ _ ⟨_, _, _, _, _, _, _, _, h, _⟩ => h.elim⟩
def kitB (K : PySem.W.Frag) (n m : Str) (b : Bool) : Bool := decide (PySem.W.kitOne K (clsAt K n) (clsAt K m) = some b)
/-- the names of the defs that make lambdas are TN -/
def tabNB (K : PySem.W.Frag) (TN : List Str) : Bool := decide (lamDefs.filter (hasDef K) = TN)
def tabP (K : PySem.W.Frag) (n : Str) : Addr := (He.cT K (n, none)).2
def tab1B (K : PySem.W.Frag) (n : Str) : Bool := decide ((tabP K n, lamQ n) ∈ tabsOf K) && (tabsOf K).all fun p => !decide (p.1 = tabP K n) || decide (p.2 = lamQ n)
structure TabF (K : PySem.W.Frag) (n : Str) : Prop where
  mem : (tabP K n, lamQ n) ∈ tabsOf K
  uni : ∀ p ∈ tabsOf K, p.1 = tabP K n → p.2 = lamQ n
theorem tab1_ok {K : PySem.W.Frag} {n : Str} (c : tab1B K n = true) : TabF K n := by
  unfold tab1B at c
  simp only [Bool.and_eq_true, decide_eq_true_eq, List.all_eq_true, Bool.or_eq_true, Bool.not_eq_true', decide_eq_false_iff_not] at c
  exact ⟨c.1, fun p hp e => (c.2 p hp).resolve_left fun z => z e⟩
abbrev TBs (K : PySem.W.Frag) (mg : Str → Option Value) (base : Heap) (TN : List Str) : Prop := ∀ n ∈ TN, TabB base mg (He.cT K (n, none)).1 (He.cT K (n, none)).2
/-! ### the head -/
section
variable {P : Program} {w : World} {K : PySem.W.Frag} {mg mb : Str → Option Value} {CX : CXT} {k : Nat} {fa a : Addr} {fd : FuncData} {x : Str} {sp : Sp} {s₁ : Shared} {vs : List Value} {ns : List Int}
def startT (K : PySem.W.Frag) (a : Addr) (vs : List Value) (ns : List Int) (ts : List Addr) : Hp := fun b => if b ∈ ts then some (.tbl #[]) else startH K a vs ns b
theorem startT_at {ts : List Addr} {b : Addr} {u : HO} (h : startT K a vs ns ts b = some u) : (b ∈ ts ∧ u = .tbl #[]) ∨ (K.lookup a = none ∧ b = a ∧ u = .frz { cls := .type "list", data := .seq vs.toArray } (.lst (ns.map V.int))) := by
  unfold startT at h
  split at h
  · rename_i hb
    exact .inl ⟨hb, (Option.some.inj h).symm⟩
  · exact .inr (startH_at h)
theorem law_callT {cs : List (Addr × Addr)} (KX : K.In s₁.heap) (hns : s₁.heap.Ns mainGlobals mg) (hb : s₁.heap.Ns builtinsNs mb) (hbb : ∀ x : Str, x ≠ "__name__" → mb x = bootBuiltins x) (hlim : s₁.heap.NoLimit) (hg : s₁.gens = #[])
    (eT : ∀ p ∈ cs, s₁.heap.get? p.2 = some { cls := .none, data := .fields #[] }) (oT : ∀ p ∈ cs, K.lookup p.2 = none) (cT : ∀ p ∈ cs, PySem.W.CodeHd s₁.heap p.1 p.2)
    (bmain : ∃ (bm : Addr) (ob : Obj), mg "__builtins__" = some (.ref bm) ∧ bm ≠ builtinsNs ∧ s₁.heap.get? bm = some ob ∧ ob.cls = .type "module" ∧ ob.dict = some builtinsNs ∧ ob.data = .plain)
    (ha : s₁.heap.get? a = some { cls := .type "list", data := .seq vs.toArray }) (hi : IntsAre vs ns) (hl : ns.length ≤ sizeLine) (hr : RoomG k callerA)
    (F : ∀ base : Heap, K.In base → base.Ns mainGlobals mg → (∀ p ∈ cs, TabB base mg p.1 p.2) → FnG P w K mg base CX k fa fd [x] sp) (hbind : ∀ (s : Shared) (u : Value), BindsTo s fd ⟨[u], []⟩ [(x, u)])
    (hsp : ∀ H : Hp, (∀ p ∈ cs, H p.2 = some (.tbl #[])) → SqL K H a (ns.map V.int) → sp [.ref a] H (fun v _ => v = .bl true) fun _ _ _ => False) (hCX : ∀ H e s', CX [] H s₁ (fun _ _ _ => False) e s' → False) :
    codeAny (model P w) callerA (.call (.ref fa) ⟨[.ref a], []⟩) (fun r s' => r = .ok (.ret (.bool true)) ∧ OldK s₁.heap s'.heap ∧ s'.os = s₁.os ∧ AllBare s'.gens) s₁ := by
  have rel := vals_ints hi
  have hlen : ns.length = vs.length := hi.length.symm
  have memT : ∀ p ∈ cs, p.2 ∈ cs.map Prod.snd := fun p hp => List.mem_map_of_mem hp
  have tabAt : ∀ b ∈ cs.map Prod.snd, s₁.heap.get? b = some { cls := .none, data := .fields #[] } := by
    intro b hb
    obtain ⟨p, hp, rfl⟩ := List.mem_map.mp hb
    exact eT p hp
  have notT : a ∉ cs.map Prod.snd := by
    intro z
    have e := tabAt a z
    rw [ha] at e
    injection e with e
    injection e with _ _ e _
    cases e
  generalize eH : startT K a vs ns (cs.map Prod.snd) = H
  have at_ : ∀ {b : Addr} {u : HO}, H b = some u → (b ∈ cs.map Prod.snd ∧ u = .tbl #[]) ∨ (K.lookup a = none ∧ b = a ∧ u = .frz { cls := .type "list", data := .seq vs.toArray } (.lst (ns.map V.int))) := fun {b u} h => startT_at (by rw [eH]; exact h)
  have free : ∀ {b : Addr}, b ≠ a → b ∉ cs.map Prod.snd → H b = none := fun {b} h h2 => by
    cases q : H b with
    | none => rfl
    | some u =>
      rcases at_ q with z | z
      · exact absurd z.1 h2
      · exact absurd z.2.1 h
  have tabH : ∀ p ∈ cs, H p.2 = some (.tbl #[]) := fun p hp => by
    rw [← eH]
    exact if_pos (memT p hp)
  have held : HOk P w H s₁.heap := fun b u e => by
    rcases at_ e with ⟨z, rfl⟩ | ⟨_, rfl, rfl⟩
    · exact tabAt b z
    · exact ⟨ha, by rw [List.length_map]; exact hl, vs, _, rel, ha⟩
  have script : SqL K H a (ns.map V.int) := by
    cases q : K.lookup a with
    | none =>
      refine .inl (.inr ⟨{ cls := .type "list", data := .seq vs.toArray }, ?_⟩)
      rw [← eH]
      unfold startT startH
      rw [if_neg notT, q]
      exact if_pos rfl
    | some o =>
      have e := KX a o q
      rw [ha] at e
      cases e
      exact .inr ⟨_, vs.toArray, _, q, rfl, rfl, rfl, by rw [List.size_toArray, ← hlen]; exact hl, by simpa using rel⟩
  have plainB : ∀ {b : Addr} {o : Obj}, s₁.heap.get? b = some o → (∀ (us : Array Value) (m : Nat), o.data ≠ .seq us m) → o.data ≠ .fields #[] → H b = none := fun {b o} e h1 h2 => free (fun z => by
    subst z
    rw [ha] at e
    cases e
    exact h1 _ _ rfl) fun z => by
    rw [tabAt b z] at e
    cases e
    exact h2 rfl
  have ns' : ∀ {b : Addr} {m : Str → Option Value}, s₁.heap.Ns b m → (hidT s₁.heap H).Ns b m := fun {b m} ⟨o, es, ep, e, d, r⟩ => ⟨o, es, ep, hidT_get e (plainB e (by intro _ _ z; rw [d] at z; cases z) (by intro z; rw [d] at z; cases z)), d, r⟩
  have inK : K.In (hidT s₁.heap H) := fun b o e => hidT_get (KX b o e) (by
    cases q : H b with
    | none => rfl
    | some u =>
      rcases at_ q with ⟨h1, _⟩ | ⟨h1, h2, _⟩
      · obtain ⟨p, hp, rfl⟩ := List.mem_map.mp h1
        rw [oT p hp] at e
        cases e
      · rw [h2, h1] at e
        cases e)
  have tabs : ∀ p ∈ cs, TabB (hidT s₁.heap H) mg p.1 p.2 := by
    intro p hp
    have hT := eT p hp
    have gP : mainGlobals ≠ p.2 := by
      obtain ⟨o, es, ep, e, d, _⟩ := hns
      intro z
      rw [z, hT] at e
      cases e
      cases d
    refine ⟨?_, ?_, gP⟩
    · obtain ⟨o, us, file, tf, flags, tg, inF, text, tt, e1, r1, r2, r3, rest⟩ := cT p hp
      refine ⟨o, us, file, tf, flags, tg, inF, text, tt, hidT_get e1 (plainB e1 ?_ ?_), r1, r2, r3, rest⟩
      · intro _ _ z; rw [r2] at z; cases z
      · intro z
        rw [r2] at z
        cases z
        simp at r3
    · obtain ⟨bm, ob, b1, b2, b3, b4, b5, b6⟩ := bmain
      refine ⟨bm, ob, b1, b2, ?_, ?_, hidT_get b3 (plainB b3 ?_ ?_), b4, b5, b6⟩
      · obtain ⟨o, es, ep, e, d, _⟩ := hns
        intro z
        rw [z, e] at b3
        cases b3
        rw [d] at b6
        cases b6
      · intro z
        rw [z, hT] at b3
        cases b3
        cases b6
      · intro _ _ z; rw [b6] at z; cases z
      · intro z; rw [b6] at z; cases z
  obtain ⟨mc, l1, l2⟩ := hlim
  have e0 : Env0 P w K mg (hidT s₁.heap H) callerA [] s₁ H :=
    ⟨rfl, ⟨inK, ns' hns, ⟨mb, ns' hb, hbb⟩, mc, ns' l1, l2⟩, fun b o e => of_hidT e, Nat.le_of_eq (hidT_size _ _), trivial, (fun b h => by cases h), held, .of_eq hg⟩
  refine codeAny_mono ((F _ inK (ns' hns) tabs).run callerA [] s₁ H ⟨[.ref a], []⟩ [.ref a] [.ref a] _ _ hr e0 (hbind s₁ (.ref a)) (.cons rfl .nil) (hsp H tabH script)) ?_
  rintro (e | fl) s' h
  · exact (hCX H e s' h).elim
  cases fl with
  | next => cases h
  | brk => cases h
  | cont => cases h
  | ret u =>
    obtain ⟨v, H', os, bare, un, hok', r', q⟩ := h
    have q' : v = .bl true := q
    subst q'
    obtain rfl : u = Value.bool true := r'
    have same : ∀ b o, b ∉ cs.map Prod.snd → s₁.heap.get? b = some o → s'.heap.get? b = some o := by
      intro b o nb e
      cases q : H b with
      | none => exact un.keep b o e q (by intro z; cases z) (by intro z; cases z)
      | some u =>
        rcases at_ q with z | ⟨_, rfl, rfl⟩
        · exact absurd z.1 nb
        · obtain ⟨e2, _⟩ := hok' b _ (un.frzs b _ _ q)
          rw [ha] at e
          cases e
          exact e2
    have wider : ∀ p ∈ cs, ∃ more : Array Value, s'.heap.get? p.2 = some { cls := .none, data := .fields more } := by
      intro p hp
      obtain ⟨more, z⟩ := un.tbls p.2 #[] (tabH p hp)
      exact ⟨_, hok' p.2 _ z⟩
    refine ⟨rfl, ⟨?_, ?_⟩, os, bare⟩
    · intro b o e
      by_cases nb : b ∈ cs.map Prod.snd
      · obtain ⟨p, hp, rfl⟩ := List.mem_map.mp nb
        obtain ⟨more, z⟩ := wider p hp
        rw [eT p hp] at e
        cases e
        exact .inr (.inl ⟨((cT p hp).tab (eT p hp)).isCodeTable, rfl, #[], more, rfl, by rw [Array.empty_append]; exact z⟩)
      · exact .inl (same b o nb e)
    · intro b o e
      by_cases nb : b ∈ cs.map Prod.snd
      · obtain ⟨p, hp, rfl⟩ := List.mem_map.mp nb
        obtain ⟨more, z⟩ := wider p hp
        exact ⟨_, z⟩
      · exact ⟨o, same b o nb e⟩
end
theorem walk_ofT {l : PySem.W.OpenLaw} {n k : Nat} {q : Program} {loose : List Str} {XP : (Str → Option Value) → Heap → Prop} {YP : World → Heap → Prop} {d : DefRec} {x : Str}
    (hn : l.most = some n) (hn2 : n ≤ sizeLine) (hdf : d.params.defaults = []) (hr : RoomG k callerA)
    (F : ∀ (w : World) (mg : Str → Option Value) (fa : Addr) (h : Heap), YP w h → h.Ns mainGlobals mg → mg d.name = some (.ref fa) →
      ∃ (K : PySem.W.Frag) (fd : FuncData) (cs : List (Addr × Addr)) (sp : Sp), K.In h ∧ ((∀ p ∈ cs, h.get? p.2 = some { cls := .none, data := .fields #[] }) ∧ (∀ p ∈ cs, K.lookup p.2 = none) ∧ ∀ p ∈ cs, PySem.W.CodeHd h p.1 p.2) ∧ (∀ (s : Shared) (u : Value), BindsTo s fd ⟨[u], []⟩ [(x, u)]) ∧
        (∀ (H : Hp) (a : Addr) (ns : List Int), ns.length ≤ n → (∀ p ∈ cs, H p.2 = some (.tbl #[])) → SqL K H a (ns.map V.int) → sp [.ref a] H (fun v _ => v = .bl true) fun _ _ _ => False) ∧
        ∀ base : Heap, K.In base → base.Ns mainGlobals mg → (∀ p ∈ cs, TabB base mg p.1 p.2) → FnG l.prog w K mg base CX0 k fa fd [x] sp) :
    PySem.W.WalkO q loose XP YP l.row.toRowW d [] (fun f vs => PySem.call f vs) :=
  Att.attach_callB hn hdf fun w s₀ s₁ mg mb fa o pm cd doc a vs ns G Y ho hd hcd hmg hobj hints hlen _ hg =>
    let ⟨_, _, _, _, KX, hT, hb, hsp, hF⟩ := F w mg fa _ Y G.T.g hmg
    law_callT KX G.T.g G.T.b G.T.builtins G.T.nolimit hg hT.1 hT.2.1 hT.2.2 G.T.bmain hobj hints (Nat.le_trans hlen hn2) hr hF hb (fun H hH hS => hsp H a ns hlen hH hS) fun _ _ _ z => z
def obsF (n : Nat) (fa : List He.Fa) (fn : List He.DefD) (TN : List Str) (ex : PySem.W.Frag → Bool) (g : Addr → Option Obj) : He.AlD × Bool :=
  (He.obsD fa fn (He.frT g (He.asD g n ++ [cStatics, sysModules])), ex (He.frT g (He.asD g n ++ [cStatics, sysModules])) && He.tabsB g (TN.map fun n => (n, none)) (He.frT g (He.asD g n ++ [cStatics, sysModules])))
structure SaysF (fa : List He.Fa) (fn : List He.DefD) (TN : List Str) (ex : PySem.W.Frag → Bool) (h : Heap) (K : PySem.W.Frag) : Prop where
  d : He.SaysD fa fn K
  ex : ex K = true
  hd : ∀ n ∈ TN, PySem.W.codeHdIn K (He.cT K (n, none)).1 (He.cT K (n, none)).2 = true
  out : ∀ n ∈ TN, K.lookup (He.cT K (n, none)).2 = none
  emp : ∀ n ∈ TN, h.get? (He.cT K (n, none)).2 = some { cls := .none, data := .fields #[] }
theorem saysF_of {n : Nat} {fa : List He.Fa} {fn : List He.DefD} {TN : List Str} {ex : PySem.W.Frag → Bool} {h : Heap} (e : obsF n fa fn TN ex h.get? = (He.valD fn, true)) : SaysF fa fn TN ex h (He.frT h.get? (He.asD h.get? n ++ [cStatics, sysModules])) := by
  have e1 := congrArg (fun z : He.AlD × Bool => z.1) e
  have e2 := congrArg (fun z : He.AlD × Bool => z.2) e
  unfold obsF at e1 e2
  dsimp only at e1 e2
  obtain ⟨x1, x2⟩ := Bool.and_eq_true_iff.mp e2
  have all : ∀ m ∈ TN, PySem.W.codeHdIn (He.frT h.get? (He.asD h.get? n ++ [cStatics, sysModules])) (He.cT (He.frT h.get? (He.asD h.get? n ++ [cStatics, sysModules])) (m, none)).1 (He.cT (He.frT h.get? (He.asD h.get? n ++ [cStatics, sysModules])) (m, none)).2 = true ∧
      ∃ o, h.get? (He.cT (He.frT h.get? (He.asD h.get? n ++ [cStatics, sysModules])) (m, none)).2 = some o ∧ He.emptyTab o = true := by
    intro m hm
    unfold He.tabsB at x2
    obtain ⟨y1, y2⟩ := Bool.and_eq_true_iff.mp (List.all_eq_true.mp x2 (m, none) (List.mem_map.mpr ⟨m, hm, rfl⟩))
    refine ⟨y1, ?_⟩
    split at y2
    · rename_i o z
      exact ⟨o, z, y2⟩
    · cases y2
  exact ⟨e1, x1, fun m hm => (all m hm).1, fun m hm => let ⟨_, _, z, q⟩ := all m hm; He.frT_none z q, fun m hm => by
    obtain ⟨_, o, z, q⟩ := all m hm
    rw [z, He.emptyTab_eq q]⟩
def hookF (n : Nat) (fa : List He.Fa) (fn : List He.DefD) (TN : List Str) (ex : PySem.W.Frag → Bool) : PySem.W.Hook where
  α := He.AlD × Bool
  obs := fun s => obsF n fa fn TN ex s.heap.get?
  val := fun _ => (He.valD fn, true)
  says := fun _ h => ∃ K : PySem.W.Frag, K.In h ∧ SaysF fa fn TN ex h K
  of := fun _ _ e => ⟨_, He.frT_in, saysF_of e⟩
  keeps := fun _ _ _ ⟨K, hK, c⟩ k => ⟨K, PySem.W.Frag.In.keeps hK k, ⟨c.d, c.ex, c.hd, c.out, fun p hp => k _ _ (c.emp p hp)⟩⟩
theorem obsF_eq {n : Nat} {fa : List He.Fa} {fn : List He.DefD} {TN : List Str} {ex : PySem.W.Frag → Bool} {g : Addr → Option Obj} {s : Shared} (h : ∀ a, g a = s.heap.get? a) : obsF n fa fn TN ex g = (hookF n fa fn TN ex).obs s := by
  have e : g = s.heap.get? := funext h
  subst e
  rfl
theorem cs_ok {fa : List He.Fa} {fn : List He.DefD} {TN : List Str} {ex : PySem.W.Frag → Bool} {h : Heap} {K : PySem.W.Frag} (KX : K.In h) (c : SaysF fa fn TN ex h K) :
    (∀ p ∈ TN.map (fun n => He.cT K (n, none)), h.get? p.2 = some { cls := .none, data := .fields #[] }) ∧ (∀ p ∈ TN.map (fun n => He.cT K (n, none)), K.lookup p.2 = none) ∧ ∀ p ∈ TN.map (fun n => He.cT K (n, none)), PySem.W.CodeHd h p.1 p.2 := by
  refine ⟨?_, ?_, ?_⟩ <;> intro p hp <;> obtain ⟨n, hn, rfl⟩ := List.mem_map.mp hp
  · exact c.emp n hn
  · exact c.out n hn
  · exact PySem.W.codeHd_of_K KX (c.hd n hn)
theorem tbs_of {K : PySem.W.Frag} {mg : Str → Option Value} {base : Heap} {TN : List Str} (h : ∀ p ∈ TN.map (fun n => He.cT K (n, none)), TabB base mg p.1 p.2) : TBs K mg base TN := fun n hn => h _ (List.mem_map.mpr ⟨n, hn, rfl⟩)
/-- the tables at the start are tables -/
theorem tabs_start {K : PySem.W.Frag} {TN : List Str} {H : Hp} (c : tabNB K TN = true) (h : ∀ p ∈ TN.map (fun n => He.cT K (n, none)), H p.2 = some (.tbl #[])) : Tabs (tabsOf K) H := by
  intro p hp
  unfold tabsOf at hp
  rw [of_decide_eq_true c] at hp
  obtain ⟨n, hn, rfl⟩ := List.mem_map.mp hp
  exact TabS.nil (h _ (List.mem_map.mpr ⟨n, hn, rfl⟩))
end DL
set_option Elab.async false
set_option linter.all false
set_option maxRecDepth 100000
set_option maxHeartbeats 2000000
/-! a list of the def's own, made by a comprehension on one line -/
namespace DL
open PySem PySem.Spec L2
open PyProof.Rows hiding St
section
variable {X : Cx} {F : FP} {a e elt iter : Expr} {ifs : List Expr} {scope : Scope} {own : List (Str × Nat)} {pos p pos' spos py : Pos} {tg : Expr} {Ta : TDE} {Tas : TDA} {tt : TDT} {te : TDE} {i j : Nat} {y : Str}
theorem ownLc_imp {T : TDL} {ta : TE} (h : ∀ σ H Q, tDL F T σ H Q → ta σ H Q) : ∀ De σ H, sD F (dOwn T i) De σ H → tAsg ta (gName i) De σ H := by
  rintro De σ H ⟨N, env, Dd, f, hT, ok⟩
  exact h _ _ _ ⟨N, env, _, f, hT, fun q vs H' ds n w => ok.nx _ _ _ _ (n.own i) (n.evo f.n) w⟩
theorem ds_ownLcR (hK : F.K = X.K) (hc : X.calm = true) (hN : X.N.Nodup) (hgl : Gl X "range") (hm : X.mg "range" = none) (ha : PA X [a] (tDA F Tas)) (ok : BlkOk X.N X.env.scope scope own) (hv : own.map (·.2) = [j]) (hy : X.N[i]? = some y) (hyl : X.env.scope.names.lookup y = some .local)
    (hsw : swapsWith (.ListComp elt [⟨tg, .Call (.Name "range" p) [a] [] pos', ifs, 0⟩] scope pos) (some (.Name y py)) spos.line X.env = pure true)
    (hg : ∀ (s : Shared) (H : Hp) (C : Addr) (cl : List (Str × Addr)) (fp : List Addr), PG (X.blk s H scope (compEnvC scope cl C X.env) fp) tg (gName j)) (ht : ∀ (s : Shared) (H : Hp) (C : Addr) (cl : List (Str × Addr)) (fp : List Addr), PTs (X.blk s H scope (compEnvC scope cl C X.env) fp) ifs (tDT F.calm tt))
    (he : ∀ (s : Shared) (H : Hp) (C : Addr) (cl : List (Str × Addr)) (fp : List Addr), PE (X.blk s H scope (compEnvC scope cl C X.env) fp) elt (tD F.calm te)) (hsa : starEach [a] X.env = [(false, eval a X.env)] := by rfl) (hs : ∀ x, foldedSetIterable (.Call (.Name "range" p) [a] [] pos') X.env x = pure x := by intro _; rfl) :
    PS X (.Assign [.Name y py] (.ListComp elt [⟨tg, .Call (.Name "range" p) [a] [] pos', ifs, 0⟩] scope pos) spos) (sD F (dOwn (lLcR Tas j tt te) i)) := by
  have z := ps_setLc hc hN hy hyl hsw (pi_range1 hgl hm ha hsa) ok hg ht he hs
  rw [hv] at z
  exact PS.imp z (ownLc_imp lcR_impL)
theorem ds_ownLcL (hK : F.K = X.K) (hc : X.calm = true) (hN : X.N.Nodup) (hi : PE X iter (tD F Ta)) (ok : BlkOk X.N X.env.scope scope own) (hv : own.map (·.2) = [j]) (hy : X.N[i]? = some y) (hyl : X.env.scope.names.lookup y = some .local)
    (hsw : swapsWith (.ListComp elt [⟨tg, iter, ifs, 0⟩] scope pos) (some (.Name y py)) spos.line X.env = pure true)
    (hg : ∀ (s : Shared) (H : Hp) (C : Addr) (cl : List (Str × Addr)) (fp : List Addr), PG (X.blk s H scope (compEnvC scope cl C X.env) fp) tg (gName j)) (ht : ∀ (s : Shared) (H : Hp) (C : Addr) (cl : List (Str × Addr)) (fp : List Addr), PTs (X.blk s H scope (compEnvC scope cl C X.env) fp) ifs (tDT F.calm tt))
    (he : ∀ (s : Shared) (H : Hp) (C : Addr) (cl : List (Str × Addr)) (fp : List Addr), PE (X.blk s H scope (compEnvC scope cl C X.env) fp) elt (tD F.calm te)) (hs : ∀ x, foldedSetIterable iter X.env x = pure x := by intro _; rfl) :
    PS X (.Assign [.Name y py] (.ListComp elt [⟨tg, iter, ifs, 0⟩] scope pos) spos) (sD F (dOwn (lLc Ta j tt te) i)) := by
  have z := ps_setLc hc hN hy hyl hsw (pi_list hi) ok hg ht he hs
  rw [hv] at z
  exact PS.imp z (ownLc_imp (by rw [← hK]; exact lc_impL))
end
/-! ### [e for x, y in zip(a, b)], a and b tuples of one length -/
def zipD : List D → List D → List D
  | x :: xs, y :: ys => .tup [x, y] :: zipD xs ys
  | _, _ => []
theorem zipD_len : ∀ {xs ys : List D}, xs.length = ys.length → (zipD xs ys).length = xs.length
  | [], [], _ => rfl
  | _ :: xs, _ :: ys, h => by
    show (zipD xs ys).length + 1 = xs.length + 1
    rw [zipD_len (by simpa using h)]
  | [], _ :: _, h => by cases h
  | _ :: _, [], h => by cases h
theorem zipD_get : ∀ {xs ys : List D} {i : Nat} {x y : D}, xs[i]? = some x → ys[i]? = some y → (zipD xs ys)[i]? = some (.tup [x, y])
  | x :: xs, y :: ys, 0, _, _, h1, h2 => by cases h1; cases h2; rfl
  | x :: xs, y :: ys, i + 1, _, _, h1, h2 => by
    show (zipD xs ys)[i]? = _
    exact zipD_get (by simpa using h1) (by simpa using h2)
  | [], _, _, _, _, h1, _ => by simp at h1
  | _ :: _, [], _, _, _, _, h2 => by simp at h2
abbrev gZ (j l : Nat) : TDG := dgTup 2 (dgCons (dgName j) (dgCons (dgName l) dgNil))
abbrev rZ (K : PySem.W.Frag) (j l : Nat) : TG := gTup K 2 (gCons (gName j) (gCons (gName l) gNil))
section
variable {X : Cx} {F : FP} {Ta : TDE} {Tas : TDA} {N : Addr → Prop} {σ : L2.St} {H1 H' : Hp} {env : SE} {A : Addr} {tt : TDT} {te : TDE} {all : List D} {Qd : D → Prop} {j l : Nat}
theorem wipe2 {x y : Option V} (hjl : j ≠ l) : L2.wipe (((L2.wipe σ [j, l]).set j x).set l y) [j, l] = L2.wipe σ [j, l] := by
  show ((((((σ.set l none).set j none).set j x).set l y).set l none).set j none) = (σ.set l none).set j none
  refine List.ext_getElem? fun k => ?_
  simp only [List.getElem?_set, List.length_set]
  by_cases e1 : j = k <;> by_cases e2 : l = k <;> simp [e1, e2]
theorem lc_turnZ (f : FOk F N σ H1 env) (hA : H1 A = none) (hjl : j ≠ l) (hz : all.length ≤ sizeLine) {i : Nat} {dx dy : D} {x y : V} {T : Addr} (hd : all[i]? = some (.tup [dx, dy])) (rx : Rep F.K F.Z N H1 dx x) (rye : Rep F.K F.Z N H1 dy y) (L : LcAt F N H1 A (gZ j l) tt te (wipeD env [j, l]) all Qd i H') (hT : H' T = none) :
    rZ F.K j l (.ref T) (L2.wipe σ [j, l]) (upd H' T (.tup [x, y])) fun σ2 H2 => L2.wipe σ2 [j, l] = L2.wipe σ [j, l] ∧ tDT F.calm tt σ2 H2 fun b H3 =>
      if b = true then tD F.calm te σ2 H3 fun y H4 => ∃ acc, H4 A = some (.lst acc) ∧ acc.length < sizeLine ∧ LcAt F N H1 A (gZ j l) tt te (wipeD env [j, l]) all Qd (i + 1) (upd H4 A (.lst (acc ++ [y]))) else LcAt F N H1 A (gZ j l) tt te (wipeD env [j, l]) all Qd (i + 1) H3 := by
  obtain ⟨ext, acc, ds, h1, h2, h3, h4⟩ := L
  obtain ⟨hi, e⟩ := List.getElem?_eq_some_iff.mp hd
  rw [List.drop_eq_getElem_cons hi, e] at h4
  obtain ⟨_, h4⟩ := h4
  have f0 : FOk F (fun q => N q ∨ q = A) (L2.wipe σ [j, l]) H' (wipeD env [j, l]) := (f.with' kp_lst hA ext h1).wipe [j, l]
  have lT : Ext F.Z H' (upd H' T (.tup [x, y])) := f0.n.lay hT
  have f1 := f0.ext' lT
  have xT := ext.trans lT
  have hAT : upd H' T (.tup [x, y]) A = some (.lst acc) := by rw [upd_ne (ne_of_none h1 hT)]; exact h1
  have mv : ∀ r u, ¬ N r → Kp u → H1 r = some u → upd H' T (.tup [x, y]) r = some u ∧ ¬ (N r ∨ r = A) := fun r u n k h => ⟨xT.keep r u (fun z => n (f.n.z r z)) k h, fun z => z.elim n (ne_of_none h hA)⟩
  have r1 : Rep F.K F.Z (fun q => N q ∨ q = A) (upd H' T (.tup [x, y])) dx x := Rep.mono mv dx x rx
  have r2 : Rep F.K F.Z (fun q => N q ∨ q = A) (upd H' T (.tup [x, y])) dy y := Rep.mono mv dy y rye
  have nz : ∀ p, InZ F.Z p → p ≠ A := fun p z e => by
    obtain ⟨o, q, _⟩ := f.n.all p (f.n.z p z)
    rw [e, hA] at q; cases q
  refine ⟨T, [x, y], rfl, sqt_of (N := fun _ => False) (.inl ⟨fun z => z, upd_same⟩), rfl, x, [y], rfl, y, [], rfl, rfl, ?_⟩
  refine ⟨wipe2 hjl, ?_⟩
  refine ⟨_, _, _, (((f1.set j r1).set l r2)).wish _, h4, fun b H3 e3 q3 => ?_⟩
  have x3 := xT.trans e3
  have a3 : H3 A = some (.lst acc) := e3.keep A _ (fun z => nz A z rfl) kp_lst hAT
  have f3 := f1.ext' e3
  by_cases hb : b = true
  · subst hb
    rw [if_pos rfl] at q3
    refine iteT ?_
    refine ⟨_, _, _, (((f1.set j r1).set l r2).ext' e3).wish _, q3, fun y H4 dy e4 ry q4 => ?_⟩
    have a4 : H4 A = some (.lst acc) := e4.keep A _ (fun z => nz A z rfl) kp_lst a3
    have x4 := x3.trans e4
    refine ⟨acc, a4, by omega, ⟨fun p o n k h => ?_, fun dk => ?_⟩, acc ++ [y], ds ++ [dy], upd_same, by simp; omega, ?_, ?_⟩
    · rw [upd_ne (ne_of_none h hA)]
      exact x4.keep p o n k h
    · refine ⟨fun a l ez => ?_, fun p hp => ?_⟩
      · obtain ⟨xs, m, c, k1, k2, k3⟩ := (x4.deck dk).1 a l ez
        exact ⟨xs, m, c, by rw [upd_ne (nz a ⟨a, l, ez, .inl rfl⟩)]; exact k1, by rw [upd_ne (nz l ⟨a, l, ez, .inr rfl⟩)]; exact k2, k3⟩
      · exact tab_upd a4 kp_lst (fun _ h => by cases h) ((x4.deck dk).2 p hp)
    · have mv4 : ∀ r u, ¬ (N r ∨ r = A) → Kp u → H4 r = some u → upd H4 A (.lst (acc ++ [y])) r = some u ∧ ¬ (N r ∨ r = A) := fun r u n _ h => ⟨by rw [upd_ne (fun z => n (.inr z))]; exact h, n⟩
      have h4' : Reps F.K F.Z (fun q => N q ∨ q = A) H4 ds acc := ((h3.ext lT f0.n.z).ext e3 f1.n.z).ext e4 f1.n.z
      exact (Reps.mono mv4 _ _ h4').snoc (Rep.mono mv4 _ _ ry)
    · have : (fun ys => Qd (.lst (ds ++ [dy] ++ ys))) = fun ys => Qd (.lst (ds ++ dy :: ys)) := by
        funext ys; rw [List.append_assoc]; rfl
      rw [this]
      exact q4
  · rw [Bool.not_eq_true] at hb
    subst hb
    rw [if_neg Bool.false_ne_true] at q3
    refine iteF ?_
    exact ⟨x3, acc, ds, a3, by omega, (h3.ext lT f0.n.z).ext e3 f1.n.z, q3⟩
theorem lc_endZ {env0 : SE} (f : FOk F N σ H1 env) (hA : H1 A = none) {G : TDG} {H0 : Hp} {Q : VK} (e : Ext F.Z H0 H1) (k : ∀ v H' d, Ext F.Z H0 H' → Rep F.K F.Z N H' d v → Qd d → Q v H') {n : Nat} (hn : all.length = n) (L : LcAt F N H1 A G tt te env0 all Qd n H') : Q (.ref A) H' := by
  obtain ⟨ext, acc, ds, h1, h2, h3, h4⟩ := L
  rw [← hn, List.drop_length] at h4
  have h4 : Qd (.lst (ds ++ [])) := h4
  rw [List.append_nil] at h4
  exact k _ _ (.lst ds) (e.trans ext) ⟨A, acc, rfl, f.n.fresh hA, h1, h3.less fun p z => .inl z⟩ h4
def dLcZ (T : TDA) (j l : Nat) (tt : TDT) (te : TDE) : TDE := fun ξ env Q => T ξ env fun ds => match ds with
  | [.tup xs, .tup ys] => (xs.length = ys.length ∧ xs.length ≤ sizeLine) ∧ lcD (gZ j l) tt te (wipeD env [j, l]) (zipD xs ys) fun zs => Q (.lst zs)
  | _ => False
theorem lcZ_imp (hjl : j ≠ l) : ∀ σ H Q, tD F (dLcZ Tas j l tt te) σ H Q → tLc (RZ.iZipA F.K (tDA F Tas)) (rZ F.K j l) (tDT F.calm tt) (tD F.calm te) [j, l] σ H Q := by
  rintro σ H Q ⟨N, env, Qd, f, hT, k⟩
  refine ⟨N, env, _, f, hT, fun vs H1 ds e1 r q => ?_⟩
  split at q
  · rename_i xs ys
    obtain ⟨v1, _, rfl, ⟨a, us, rfl, ra, rs⟩, v2, _, rfl, ⟨b, ws, rfl, rb, rs2⟩, rfl⟩ := r
    have f1 := f.ext' e1
    obtain ⟨⟨hl, hz⟩, q⟩ := q
    have l1 := rs.length
    have l2 := rs2.length
    have lz : (zipD xs ys).length = us.length := by rw [zipD_len hl, l1]
    refine ⟨a, b, us, ws, rfl, .inr ⟨sqt_of ra, sqt_of rb, fun A hA => ?_⟩⟩
    refine ⟨fun i m H' => m = us.length - i ∧ i ≤ us.length ∧ LcAt F N H1 A (gZ j l) tt te (wipeD env [j, l]) (zipD xs ys) Qd i H', ⟨us.length, rfl, Nat.zero_le _, lc_start f1.n hA q⟩, ?_⟩
    rintro i m H' ⟨rfl, hi, L⟩
    have qa : SqT F.K H' a us := by
      refine sqt_of (N := N) ?_
      rcases ra with ⟨n, ra⟩ | ra
      · exact .inl ⟨n, L.ext.keep a _ (fun z => n (f.n.z a z)) kp_tup ra⟩
      · exact .inr ra
    have qb : SqT F.K H' b ws := by
      refine sqt_of (N := N) ?_
      rcases rb with ⟨n, rb⟩ | rb
      · exact .inl ⟨n, L.ext.keep b _ (fun z => n (f.n.z b z)) kp_tup rb⟩
      · exact .inr rb
    by_cases hlt : i < us.length
    · have hx : us[i]? = some us[i] := List.getElem?_eq_getElem hlt
      have hlt2 : i < ws.length := by omega
      have hy : ws[i]? = some ws[i] := List.getElem?_eq_getElem hlt2
      refine .inr ⟨⟨us, ws, _, _, qa, qb, hx, hy⟩, fun H2 => LcAt F N H1 A (gZ j l) tt te (wipeD env [j, l]) (zipD xs ys) Qd (i + 1) H2, fun H2 p => ⟨us.length - (i + 1), by omega, rfl, hlt, p⟩, ?_⟩
      rintro v H2 ⟨T, x', y', rfl, hT', rfl, g1, g2⟩
      obtain ⟨dx, hdx, rdx⟩ := rs.getV (g1 us qa)
      obtain ⟨dy, hdy, rdy⟩ := rs2.getV (g2 ws qb)
      exact lc_turnZ f1 hA hjl (by omega) (zipD_get hdx hdy) rdx rdy L hT'
    · have e : i = us.length := by omega
      subst e
      exact .inl ⟨⟨us, ws, qa, qb, .inl (Nat.le_refl _)⟩, lc_endZ f1 hA e1 k lz L⟩
  · exact q.elim
variable {a b elt : Expr} {elts ifs : List Expr} {kk : Nat} {scope : Scope} {own : List (Str × Nat)} {pos p pos' tpos : Pos}
theorem d_lcZ (hK : F.K = X.K) (hc : X.calm = true) (hN : X.N.Nodup) (hjl : j ≠ l) (hgl : Gl X "zip") (hm : X.mg "zip" = none) (ha : PA X [a, b] (tDA F Tas)) (ok : BlkOk X.N X.env.scope scope own) (hv : own.map (·.2) = [j, l])
    (hg : ∀ (s : Shared) (H : Hp) (C : Addr) (cl : List (Str × Addr)) (fp : List Addr), PG (X.blk s H scope (compEnvC scope cl C X.env) fp) (.Tuple elts kk tpos) (rZ X.K j l)) (ht : ∀ (s : Shared) (H : Hp) (C : Addr) (cl : List (Str × Addr)) (fp : List Addr), PTs (X.blk s H scope (compEnvC scope cl C X.env) fp) ifs (tDT F.calm tt))
    (he : ∀ (s : Shared) (H : Hp) (C : Addr) (cl : List (Str × Addr)) (fp : List Addr), PE (X.blk s H scope (compEnvC scope cl C X.env) fp) elt (tD F.calm te)) (hs1 : starEach [a, b] X.env = (false, eval a X.env) :: starEach [b] X.env := by rfl) (hpl : (backTo pos' (starEach [b] X.env)).any (·.1) = false := by rfl)
    (hs : ∀ x, foldedSetIterable (.Call (.Name "zip" p) [a, b] [] pos') X.env x = pure x := by intro _; rfl) :
    PE X (.ListComp elt [⟨.Tuple elts kk tpos, .Call (.Name "zip" p) [a, b] [] pos', ifs, 0⟩] scope pos) (tD F (dLcZ Tas j l tt te)) := by
  have z := pe_lc (pos := pos) hc hN (RZ.pi_zipA hgl hm ha hs1 hpl) ok hg ht he hs
  rw [hv] at z
  exact PE.imp z (by rw [← hK]; exact lcZ_imp hjl)
end
end DL
set_option Elab.async false
set_option linter.all false
set_option maxRecDepth 100000
/-! what can be shown, by weight -/
namespace DL
open PySem PySem.Spec L2
/-- signs that are signs -/
def Cs (x : Str) : Prop := ∀ c ∈ x.cps.toList, c < 16 ^ 8
theorem cs_of (s : String) : Cs (Str.ofString s) := by
  intro c h
  rw [Str.ofString_eq_toList] at h
  obtain ⟨x, _, rfl⟩ := List.mem_map.mp h
  exact x.val.toNat_lt
theorem Cs.app {x y : Str} (h : Cs x) (g : Cs y) : Cs (x ++ y) := by
  intro c m
  have e : (x ++ y).cps.toList = x.cps.toList ++ y.cps.toList := by
    show (x.cps ++ y.cps).toList = _
    exact Array.toList_append
  rw [e] at m
  exact (List.mem_append.mp m).elim (h c) (g c)
theorem cs_from : ∀ (ts : List Str) (k : Nat) (acc : Str), Cs acc → (∀ t ∈ ts, Cs t) → Cs (textFrom k acc ts)
  | [], _, _, h, _ => h
  | t :: ts, k, acc, h, g => cs_from ts (k + 1) _ ((h.app (cs_of _)).app (g t List.mem_cons_self)) fun u m => g u (List.mem_cons_of_mem _ m)
theorem cs_list {ts : List Str} (g : ∀ t ∈ ts, Cs t) : Cs (listText ts) := (cs_from ts 0 _ (cs_of _) g).app (cs_of _)
theorem cs_join : ∀ (ts : List Str), (∀ t ∈ ts, Cs t) → Cs (Str.join ", " ts)
  | [], _ => cs_of ""
  | [t], g => g t List.mem_cons_self
  | t :: u :: r, g => ((g t List.mem_cons_self).app (cs_of _)).app (cs_join (u :: r) fun x m => g x (List.mem_cons_of_mem _ m))
theorem cs_tuple {ts : List Str} (g : ∀ t ∈ ts, Cs t) : Cs (tupleText ts) := ((cs_of "(").app (cs_join ts g)).app (cs_of _)
theorem cs_dict {ts : List Str} (g : ∀ t ∈ ts, Cs t) : Cs (dictText ts) := ((cs_of "{").app (cs_join ts g)).app (cs_of _)
theorem cs_char {q c : Nat} (hq : q < 16 ^ 8) (hc : c < 16 ^ 8) : ∀ x ∈ Builtin.Str.reprChar q c, x < 16 ^ 8 := by
  have hx : ∀ (n : Nat), ∀ x ∈ (List.replicate (n - ((Nat.toDigits 16 c).map Char.toNat).length) 48 ++ (Nat.toDigits 16 c).map Char.toNat), x < 16 ^ 8 := by
    intro n x m
    rcases List.mem_append.mp m with m | m
    · have := (List.mem_replicate.mp m).2
      subst this
      decide
    · obtain ⟨y, _, rfl⟩ := List.mem_map.mp m
      exact y.val.toNat_lt
  have small : ∀ {x a b : Nat}, x ∈ [a, b] → a < 16 ^ 8 → b < 16 ^ 8 → x < 16 ^ 8 := by
    intro x a b m h1 h2
    rcases List.mem_cons.mp m with rfl | m
    · exact h1
    · rcases List.mem_cons.mp m with rfl | m
      · exact h2
      · cases m
  intro x m
  unfold Builtin.Str.reprChar at m
  dsimp only at m
  repeat' split at m
  all_goals first
    | exact small m (by decide) hc
    | exact small m (by decide) (by decide)
    | (rcases List.mem_cons.mp m with rfl | m
       · exact hc
       · cases m)
    | (rcases List.mem_append.mp m with m | m
       · exact small m (by decide) (by decide)
       · exact hx _ x m)
theorem cs_repr {x : Str} (h : Cs x) : Cs (reprText x) := by
  have hq : reprQuote x < 16 ^ 8 := by
    unfold reprQuote
    split <;> decide
  have key : ∀ (l : List Nat) (acc : Array Nat), (∀ c ∈ l, c < 16 ^ 8) → (∀ c ∈ acc.toList, c < 16 ^ 8) → ∀ c ∈ (l.foldl (fun out c => out ++ (Builtin.Str.reprChar (reprQuote x) c).toArray) acc).toList, c < 16 ^ 8 := by
    intro l
    induction l with
    | nil => intro acc _ h; exact h
    | cons a l ih =>
      intro acc h1 h2
      refine ih _ (fun c m => h1 c (List.mem_cons_of_mem _ m)) ?_
      intro c m
      rw [Array.toList_append] at m
      rcases List.mem_append.mp m with m | m
      · exact h2 c m
      · exact cs_char hq (h1 a List.mem_cons_self) c (by simpa using m)
  intro c m
  unfold reprText at m
  have m : c ∈ ((x.cps.foldl (fun out c => out ++ (Builtin.Str.reprChar (reprQuote x) c).toArray) #[reprQuote x]).push (reprQuote x)).toList := m
  rw [← Array.foldl_toList, Array.toList_push] at m
  rcases List.mem_append.mp m with m | m
  · exact key _ _ h (by intro c m; simp at m; rw [m]; exact hq) c m
  · simp at m
    rw [m]
    exact hq
/-- shown with at most w signs, at most k deep -/
structure Gd (w k : Nat) (d : D) : Prop where
  pl : plainR d = true
  sh : (toP d).showable = true
  dp : (toP d).depth ≤ k
  ln : (toP d).shown.length ≤ w
  cs : Cs (toP d).shown
  le : ∀ ds, seqOf d = some ds → ds.length ≤ 1000
theorem Gd.mono {w k w' k' : Nat} {d : D} (g : Gd w k d) (h : w ≤ w') (h' : k ≤ k') : Gd w' k' d := ⟨g.pl, g.sh, Nat.le_trans g.dp h', Nat.le_trans g.ln h, g.cs, g.le⟩
theorem Gd.show {w k : Nat} {d : D} (g : Gd w k d) (h : w ≤ 16777216 := by decide) (h' : k ≤ 64 := by decide) : showR d := ⟨g.pl, g.sh, Nat.le_trans g.dp h', Nat.le_trans g.ln (by rw [sizeLine_eq]; exact h)⟩
theorem gd_non : Gd 100 0 .non := ⟨rfl, rfl, by decide +kernel, by decide +kernel, cs_of "None", fun _ h => by cases h⟩
theorem gd_bl (b : Bool) : Gd 100 0 (.bl b) := ⟨rfl, rfl, by cases b <;> decide +kernel, by cases b <;> decide +kernel, by cases b <;> exact cs_of _, fun _ h => by cases h⟩
theorem gd_int {i : Int} (h : Bd 250 i) : Gd 100 0 (.int i) := by
  have h10 : i.natAbs < 10 ^ 76 := Nat.lt_of_lt_of_le h (by decide)
  have l := int_text_length_le10 (k := 76) (by decide) h10
  refine ⟨rfl, ?_, ?_, ?_, cs_of _, fun _ h => by cases h⟩
  · simp only [toP, PyData.showable]
    exact decide_eq_true (PySem.Flt.log2_lt_of (by decide) (h.mono (m := 1920) (by decide)))
  · simp only [toP, PyData.depth]; decide
  · show (Str.ofString (toString i)).length ≤ 100
    rw [PySem.ofString_length]
    omega
theorem gd_str {x : Str} {n : Nat} (h : x.length ≤ n) (c : Cs x) : Gd (10 * n + 2) 0 (.str x) := by
  refine ⟨rfl, rfl, ?_, ?_, cs_repr c, fun _ h => by cases h⟩
  · simp only [toP, PyData.depth]; decide
  · show (reprText x).length ≤ _
    have := StrLaws.reprText_len x c
    omega
theorem gds {w k : Nat} : ∀ ds : List D, (∀ d ∈ ds, Gd w k d) → plainRs ds = true ∧ PyData.showableAll (toPs ds) = true ∧ PyData.depthAll (toPs ds) ≤ k ∧ ((PyData.shownAll (toPs ds)).map (·.length)).sum ≤ w * ds.length ∧ (PyData.shownAll (toPs ds)).length = ds.length ∧ ∀ t ∈ PyData.shownAll (toPs ds), Cs t
  | [], _ => by refine ⟨rfl, rfl, ?_, ?_, ?_, ?_⟩ <;> simp [toPs, PyData.shownAll, PyData.depthAll]
  | d :: ds, h => by
    obtain ⟨h1, h2, h3, h4, h5, h6⟩ := gds ds fun x m => h x (List.mem_cons_of_mem _ m)
    have g := h d List.mem_cons_self
    refine ⟨?_, ?_, ?_, ?_, ?_, ?_⟩
    · show (plainR d && plainRs ds) = true
      rw [g.pl, h1]; rfl
    · show PyData.showableAll (toP d :: toPs ds) = true
      simp only [PyData.showableAll, g.sh, h2, Bool.and_self]
    · show PyData.depthAll (toP d :: toPs ds) ≤ k
      have := g.dp
      simp only [PyData.depthAll]
      omega
    · show ((PyData.shownAll (toP d :: toPs ds)).map (·.length)).sum ≤ _
      have := g.ln
      simp only [PyData.shownAll, List.map_cons, List.sum_cons, List.length_cons, Nat.mul_succ]
      omega
    · show (PyData.shownAll (toP d :: toPs ds)).length = _
      simp only [PyData.shownAll, List.length_cons, h5]
    · show ∀ t ∈ PyData.shownAll (toP d :: toPs ds), Cs t
      intro t m
      simp only [PyData.shownAll, List.mem_cons] at m
      rcases m with rfl | m
      · exact g.cs
      · exact h6 t m
theorem gd_lst {w k n : Nat} {ds : List D} (h : ∀ d ∈ ds, Gd w k d) (hl : ds.length ≤ n) (hn : n ≤ 1000 := by decide) : Gd ((w + 2) * n + 4) (k + 1) (.lst ds) := by
  obtain ⟨h1, h2, h3, h4, h5, h6⟩ := gds ds h
  have m : (w + 2) * ds.length ≤ (w + 2) * n := Nat.mul_le_mul_left _ hl
  refine ⟨h1, ?_, ?_, ?_, ?_, fun _ e => by cases e; omega⟩
  · simpa only [toP, PyData.showable] using h2
  · simp only [toP, PyData.depth]; omega
  · have q := listText_len_le (PyData.shownAll (toPs ds))
    rw [show (toP (.lst ds)).shown = listText (PyData.shownAll (toPs ds)) by simp only [toP, PyData.shown]]
    rw [Nat.add_mul] at m
    omega
  · rw [show (toP (.lst ds)).shown = listText (PyData.shownAll (toPs ds)) by simp only [toP, PyData.shown]]
    exact cs_list h6
theorem gd_tup {w k n : Nat} {ds : List D} (h : ∀ d ∈ ds, Gd w k d) (hl : ds.length ≤ n) (hn : n ≤ 1000 := by decide) : Gd ((w + 2) * n + 4) (k + 1) (.tup ds) := by
  obtain ⟨h1, h2, h3, h4, h5, h6⟩ := gds ds h
  have m : (w + 2) * ds.length ≤ (w + 2) * n := Nat.mul_le_mul_left _ hl
  refine ⟨h1, ?_, ?_, ?_, ?_, fun _ e => by cases e; omega⟩
  · simpa only [toP, PyData.showable] using h2
  · simp only [toP, PyData.depth]; omega
  · have q := tupleText_len_le (PyData.shownAll (toPs ds))
    rw [show (toP (.tup ds)).shown = tupleText (PyData.shownAll (toPs ds)) by simp only [toP, PyData.shown]]
    rw [Nat.add_mul] at m
    omega
  · rw [show (toP (.tup ds)).shown = tupleText (PyData.shownAll (toPs ds)) by simp only [toP, PyData.shown]]
    exact cs_tuple h6
/-- the parts of what is plain are typed -/
theorem typed_of {d : D} (h : plainR d = true) : typed d = true := by
  cases d <;> first | rfl | cases h
theorem plainRs_mem : ∀ {ds : List D}, plainRs ds = true → ∀ d ∈ ds, plainR d = true
  | [], _, _, m => by cases m
  | x :: ds, h, d, m => by
    have h : (plainR x && plainRs ds) = true := h
    obtain ⟨h1, h2⟩ := Bool.and_eq_true_iff.mp h
    rcases List.mem_cons.mp m with rfl | m
    · exact h1
    · exact plainRs_mem h2 d m
end DL
set_option Elab.async false
set_option linter.all false
set_option maxRecDepth 100000
set_option maxHeartbeats 2000000
/-! for i, x in enumerate(t), t a tuple -/
namespace PySem
open Sem (wp)
/-- enumerate(v) begins, whatever iter(v) is -/
theorem enumStartsOver {v : Value} {o : Obj} {G : Heap → Prop} (B : Begins v o G) :
    Meets (Builtin.«enumerate.__new__» ⟨[.type "enumerate", v], []⟩) (fun _ R s => G s.heap ∧
      R (.ok (.ret (.ref (s.heap.push o).objs.size))) { s with heap := (s.heap.push o).push { cls := .type "enumerate", data := .fields #[.none, .bool false, .ref s.heap.objs.size, rawInt 0, .none, .none] } }) :=
  .of_wp fun prog w A R s h => by
    obtain ⟨hp, g, d, tk, os⟩ := s
    obtain ⟨h0, h⟩ := h
    have hsub := sub_enumerate
    have begin_ : ∀ {A' : Around} {E : Value → Shared → Prop} {Q : Value → Shared → Prop}, Q (.ref hp.objs.size) ⟨hp.push o, g, d, tk, os⟩ → wpAny (model prog w) A' (pyIter v) Q E ⟨hp, g, d, tk, os⟩ :=
      fun q => B.iter prog w _ _ ⟨hp, g, d, tk, os⟩ _ h0 q
    wp_walk
    refine wpAny_stack_any fun st => wpAny_pure ?_
    split
    · rename_i c _ _ _ _ _
      cases (c == Value.type "enumerate") <;>
      · wp_walk using begin_
        exact ⟨_, rfl, h⟩
    · wp_walk using begin_
      exact ⟨_, rfl, h⟩
section
variable {prog : Program} {w : World} {A : Around} {E : Value → Shared → Prop} {s : Shared}
theorem enumTupleBegins {t : Addr} {items : Array Value} {Q : Value → Shared → Prop} (hT : s.heap.IsTuple t items)
    (h : ∀ h', IsEnum h' (s.heap.objs.size + 1) s.heap.objs.size 0 .none → h'.IsTupleIter s.heap.objs.size t 0 → h'.objs.size = s.heap.objs.size + 2 →
      (∀ b o, s.heap.get? b = some o → h'.get? b = some o) → Q (.ref (s.heap.objs.size + 1)) { s with heap := h' }) :
    wpAny (model prog w) A (call (.type "enumerate") [.ref t]) Q E s := by
  refine callType_new F.called_enumerate (by decide) (F.typeCall_enumerate_1 _) (F.newCall_enumerate_1 _) (fun obj => F.args_object_init_2 obj _) F.entry_enumerate_new
    (enumStartsOver (begins_tuple t items)) ⟨hT, ?_⟩
  generalize hg1 : s.heap.push { cls := .type "tuple_iterator", data := .fields #[.ref t, .int 0 0] } = g1
  have z1 : g1.objs.size = s.heap.objs.size + 1 := by rw [← hg1]; exact Heap.size_push ..
  have it1 : g1.get? s.heap.objs.size = some { cls := .type "tuple_iterator", data := .fields #[.ref t, .int 0 0] } := by rw [← hg1]; exact Heap.get?_push_size _ rfl
  have k1 : ∀ b o, s.heap.get? b = some o → g1.get? b = some o := fun b o e => by rw [← hg1]; exact Heap.get?_push_of_some _ e
  generalize hg2 : g1.push { cls := .type "enumerate", data := .fields #[.none, .bool false, .ref s.heap.objs.size, rawInt 0, .none, .none] } = g2
  have z2 : g2.objs.size = s.heap.objs.size + 2 := by rw [← hg2, Heap.size_push, z1]
  have e2 : g2.get? (s.heap.objs.size + 1) = some { cls := .type "enumerate", data := .fields #[.none, .bool false, .ref s.heap.objs.size, rawInt 0, .none, .none] } := by
    rw [← hg2, ← z1]; exact Heap.get?_push_size _ rfl
  have k2 : ∀ b o, g1.get? b = some o → g2.get? b = some o := fun b o e => by rw [← hg2]; exact Heap.get?_push_of_some _ e
  show _ ∧ _
  rw [z1]
  exact ⟨⟨_, e2, rfl⟩, h g2 e2 ⟨_, k2 _ _ it1, rfl, rfl⟩ z2 fun b o e => k2 b o (k1 b o e)⟩
end
end PySem
namespace L2
open PySem PySem.Spec PyProof.Rows
/-- the tuple at a, each item in a new pair behind its place -/
def ItP (K : PySem.W.Frag) (a : Addr) : It where
  go := fun i H => ∃ (xs : List V) (x : V), SqT K H a xs ∧ xs[i]? = some x
  yld := fun i H v H' => ∃ T x, v = .ref T ∧ H T = none ∧ H' = upd H T (.tup [.int (i : Nat), x]) ∧ ∀ xs, SqT K H a xs → xs[i]? = some x
  stop := fun i H => ∃ xs : List V, SqT K H a xs ∧ xs.length = i
theorem tup_ne {h : Heap} {a b : Addr} {vs : Array Value} {o : Obj} (t : h.IsTuple a vs) (e : h.get? b = some o) (n : o.cls ≠ .type "tuple") : a ≠ b := by
  rintro rfl
  obtain ⟨o2, p2, c2, _⟩ := t
  rw [e] at p2
  cases p2
  exact n c2
theorem tup_nit {h : Heap} {a it : Addr} {i : Nat} {vs : Array Value} (t : h.IsTuple a vs) (q : h.IsTupleIter it a i) : a ≠ it := by
  obtain ⟨o1, p1, c1, _⟩ := q
  exact tup_ne t p1 (by rw [c1]; decide)
theorem two_mem {b e it : Addr} (h : b ∈ [e, it]) : b = e ∨ b = it := by simpa using h
theorem turnP {P : Program} {w : World} {K : PySem.W.Frag} {elts : List Expr} {kk : Nat} {tpos : Pos} (a e it : Addr) :
    Turn P w K (.Tuple elts kk tpos) (ItP K a) [e, it] e (fun i h => (∃ old, IsEnum h e it ((i : Nat) : Int) old) ∧ h.IsTupleIter it a i ∧ e ≠ it) where
  mem := List.mem_cons_self
  obj := fun i h st b hb => by
    obtain ⟨⟨_, he⟩, ⟨o, ho, _, hd⟩, _⟩ := st
    rcases two_mem hb with rfl | rfl
    · exact ⟨_, he, fun _ q => nomatch q⟩
    · exact ⟨o, ho, fun _ q => by rw [hd] at q; cases q⟩
  keep := fun i h h' st k => by
    obtain ⟨⟨old, he⟩, hi, hne⟩ := st
    exact ⟨⟨old, k e List.mem_cons_self _ he⟩, hi.at fun o q => k it (by simp) o q, hne⟩
  item := by
    intro X hP hw hK hc i pins s σ H E I hf st hg
    subst hP hw hK
    obtain ⟨⟨old, he⟩, hit, hne⟩ := st
    obtain ⟨xs, x, sq, hx⟩ := hg
    obtain ⟨its, vals, tup, _⟩ := I.tuple sq
    obtain ⟨u, hu, ru⟩ := vals.get hx
    have le := Heap.lt_size he
    have li : it < s.heap.objs.size := by obtain ⟨_, q, _⟩ := hit; exact Heap.lt_size q
    have tup : s.heap.IsTuple a its.toArray := tup
    have ai := tup_nit tup hit
    have ae : a ≠ e := tup_ne tup he (show Value.type "enumerate" ≠ Value.type "tuple" by decide)
    have hi : i < its.toArray.size := by
      have := (List.getElem?_eq_some_iff.mp hu).1
      simpa using this
    have eu : ∀ y, its.toArray[i]? = some y → y = u := fun y hy => by
      have : its[i]? = some y := by simpa using hy
      rw [hu] at this
      exact (Option.some.inj this).symm
    refine wpAny_pyNext_enum_itemD (Draws.tuple (A := X.A.in1) (I.ok.hd hc) it a ai its.toArray) he ⟨hit, tup⟩ hi hne (fun m => (two_mem m).elim hne (Ne.symm ae)) fun y h' tk hy out st' hT hsz hk => ?_
    cases eu y hy
    refine ⟨_, rfl, wpAny_letOwnedTupleGo_enum (s := { s with heap := h', toks := tk + 1 }) out fun h'' he' sb => ?_⟩
    have hT2 : h''.get? s.heap.objs.size = some { cls := .type "tuple", data := .seq #[.int i tk, u] } := (sb.2 _ (Nat.ne_of_gt le)).trans hT
    have fresh : ObjOk X.prog X.w (upd H s.heap.objs.size (.tup [.int (i : Nat), x])) h'' s.heap.objs.size (.tup [.int (i : Nat), x]) :=
      ⟨by show 2 ≤ sizeLine; decide, [.int i tk, u], .cons ⟨_, rfl⟩ (.cons ru .nil), ⟨_, hT2, rfl, _, rfl⟩⟩
    have kept : ∀ b ob, b ∉ [e, it] → s.heap.get? b = some ob → h''.get? b = some ob := fun b ob hb q => by
      have b1 : b ≠ e := fun z => hb (by simp [z])
      have b2 : b ≠ it := fun z => hb (by simp [z])
      exact (sb.2 b b1).trans (hk b ob b1 b2 q)
    have J := I.turnedNew (ch := [e, it]) (t' := tk + 1) kept hf (Nat.le_refl _) fresh
    refine ⟨.ref s.heap.objs.size, _, J, rfl, ⟨_, x, rfl, I.hok.fresh (Nat.le_refl _), rfl, fun ys hy => by rw [I.tuple_inj hy sq]; exact hx⟩, ⟨⟨u, ?_⟩, st'.1.at fun o q => (sb.2 it (Ne.symm hne)).trans q, hne⟩, fun b hb => ?_⟩
    · rw [show ((i + 1 : Nat) : Int) = (i : Int) + 1 by omega]
      exact he'
    · have lb : b < s.heap.objs.size := by
        rcases two_mem hb with rfl | rfl
        · exact le
        · exact li
      rw [upd_ne (Nat.ne_of_lt lb)]
      exact (hf b hb).1
  done := by
    intro X hP hw hK hc i pins s σ H E I hf st hg
    subst hP hw hK
    obtain ⟨⟨old, he⟩, hit, hne⟩ := st
    obtain ⟨xs, sq, hx⟩ := hg
    obtain ⟨its, vals, tup, _⟩ := I.tuple sq
    have tup : s.heap.IsTuple a its.toArray := tup
    have n_ : its.toArray.size = i := by rw [← hx, vals.length]; simp
    obtain ⟨f0, f1, f2, f3, f4, f5⟩ := hf it (by simp)
    refine wpAny_pyNext_enum_endD (Draws.tuple (A := X.A.in1) (I.ok.hd hc) it a (tup_nit tup hit) its.toArray) he ⟨by rw [n_]; exact hit, tup⟩ fun h' eb => ⟨rfl, I.turned (t' := s.toks) (fun b o hb q => eb b o hb q) f0 f1 f3 f4 f5⟩
  self := fun A i s Q E st h => let ⟨⟨_, he⟩, _⟩ := st; wpAny_pyIter_enum he h
/-- enumerate(e), e a tuple -/
def iEnumP (K : PySem.W.Frag) (ta : TA) : TI := fun σ H R => ta σ H fun vs H1 => ∃ (a : Addr) (xs : List V), vs = [.ref a] ∧ SqT K H1 a xs ∧ R (ItP K a) H1
theorem pi_enumP {X : Cx} {e : Expr} {ta : TA} {p pos tpos : Pos} {elts : List Expr} {kk : Nat} (hg : Gl X "enumerate") (hm : X.mg "enumerate" = none) (ha : PA X [e] ta) (hs : starEach [e] X.env = [(false, eval e X.env)] := by rfl) :
    PI X (.Tuple elts kk tpos) (.Call (.Name "enumerate" p) [e] [] pos) (iEnumP X.K ta) := by
  refine ⟨fun pins s σ H R I want => Call_ (ld_blt I hg hm boot_enumerate (PyProof.Rows.callWith_type1 (thn (ha.run pos pins s σ H _ I want) fun us s1 got => ?_) hs rfl))⟩
  obtain ⟨vs, H1, I1, r1, a, xs, rfl, sq, q⟩ := got
  obtain ⟨its, vals, tup, _⟩ := I1.tuple sq
  cases r1 with
  | cons r rr =>
    cases rr
    cases r
    refine enumTupleBegins (t := a) (items := its.toArray) tup fun h' he hit _ hk => wpAny_pyIter_enum he ?_
    have J : Inv X pins σ H1 { s1 with heap := h' } := I1.kept (t' := s1.toks) hk
    refine ⟨s1.heap.objs.size + 1, [s1.heap.objs.size + 1, s1.heap.objs.size], _, _, H1, rfl, J, turnP a _ _, ⟨⟨.none, he⟩, hit, Nat.succ_ne_self _⟩, fun b hb => ?_, q⟩
    have above : s1.heap.objs.size ≤ b := by
      rcases two_mem hb with rfl | rfl
      · exact Nat.le_succ _
      · exact Nat.le_refl _
    exact I1.fpOk above (I1.hok.fresh above)
theorem walkP {K : PySem.W.Frag} {a : Addr} {xs : List V} : Walk (ItP K a) xs.length (fun H => SqT K H a xs) (YPair (fun i => some (.int (i : Nat))) (fun i => xs[i]?)) := by
  refine ⟨fun i _ hi q => ⟨xs, xs[i], q, List.getElem?_eq_getElem hi⟩, fun _ q => ⟨xs, q, rfl⟩, ?_⟩
  rintro i H v H' _ q ⟨T, x, h1, h2, h3, h4⟩
  exact ⟨T, .int (i : Nat), x, h1, h2, h3, rfl, h4 xs q⟩
end L2
namespace DL
open PySem PySem.Spec L2
open PyProof.Rows hiding St
/-- the items behind their places -/
def enumD : Nat → List D → List D
  | _, [] => []
  | i, d :: ds => .tup [.int (i : Nat), d] :: enumD (i + 1) ds
theorem enumD_len : ∀ {ds : List D} {i : Nat}, (enumD i ds).length = ds.length
  | [], _ => rfl
  | _ :: ds, i => by
    show (enumD (i + 1) ds).length + 1 = ds.length + 1
    rw [enumD_len]
theorem enumD_get : ∀ {ds : List D} {i j : Nat} {d : D}, ds[j]? = some d → (enumD i ds)[j]? = some (.tup [.int ((i + j : Nat) : Int), d])
  | [], _, _, _, h => by simp at h
  | x :: ds, i, 0, d, h => by
    cases h
    rfl
  | x :: ds, i, j + 1, d, h => by
    show (enumD (i + 1) ds)[j]? = _
    rw [enumD_get (by simpa using h), show i + 1 + j = i + (j + 1) by omega]
/-- for i, x in enumerate(t) -/
def dForE (T : TDA) (G : TDG) (B : TDS) : TDS := fun ξ De env => T ξ env fun ds => match ds with
  | [.tup xs] => forD G B ξ De (enumD 0 xs) env
  | _ => False
section
variable {X : Cx} {F : FP} {Tas : TDA} {G : TDG} {B : TDS}
theorem ds_forE {e : Expr} {elts : List Expr} {kk : Nat} {p pos pos' tpos : Pos} {body : List Stmt} (hK : F.K = X.K) (hp : PassesOwn (model X.prog X.w) X.A X.env X.xe) (hc : X.calm = true) (hgl : Gl X "enumerate") (hm : X.mg "enumerate" = none) (ha : PA X [e] (tDA F Tas)) (hg : PG X (.Tuple elts kk tpos) (gD F G)) (hb : PSs X body (sD F B))
    (hsa : starEach [e] X.env = [(false, eval e X.env)] := by rfl) (hs : ∀ x, foldedSetIterable (.Call (.Name "enumerate" p) [e] [] pos') X.env x = pure x := by intro _; rfl) : PS X (.For (.Tuple elts kk tpos) (.Call (.Name "enumerate" p) [e] [] pos') body [] pos) (sD F (dForE Tas G B)) := PS.imp (ps_for hp hc (pi_enumP hgl hm ha hsa) hg hb hs) (by
  rintro De σ H ⟨N, env, Dd, f, hT, ok⟩
  refine ⟨N, env, _, f, hT, fun vs H1 ds e1 r q => ?_⟩
  split at q
  · rename_i xs
    obtain ⟨v, _, rfl, ⟨a, us, rfl, ra, rs⟩, rfl⟩ := r
    have f1 := f.ext' e1
    have ok1 := ok.of (.of f.n e1)
    refine ⟨a, us, rfl, by rw [← hK]; exact sqt_of ra, ?_⟩
    refine for_it (walkP (K := X.K) (a := a) (xs := us)) (fun i σ H' => ∃ N' env', FOk F N' σ H' env' ∧ Evo N H1 N' H' ∧ forD G B F.ex Dd ((enumD 0 xs).drop i) env') ⟨N, env, f1, .refl, q⟩ ?_ ?_ ?_
    · rintro i σ' H' _ ⟨N', env', f', ev, _⟩
      rw [← hK]
      refine sqt_of (N := N') ?_
      rcases ra with ⟨n, ra⟩ | ra
      · obtain ⟨h1, h2⟩ := ev a _ n kp_tup ra
        exact .inl ⟨h2, h1⟩
      · exact .inr ra
    · rintro i x σ' H' H2 hi ⟨N', env', f', ev, q'⟩ ⟨T, x', y', rfl, hT', rfl, g1, g2⟩
      cases g1
      obtain ⟨d, hd, rd⟩ := rs.getV g2
      have lT := f'.n.lay (o := .tup [.int (i : Nat), y']) hT'
      have f2 := f'.ext' lT
      have rd' := Rep.mono ev d y' rd
      have r2 : Rep F.K F.Z N' (upd H' T (.tup [.int (i : Nat), y'])) (.tup [.int ((0 + i : Nat) : Int), d]) (.ref T) := by
        rw [Nat.zero_add]
        exact rep_newT f'.n hT' ⟨_, _, rfl, rep_int, _, _, rfl, rd', rfl⟩
      exact forD_step (fun _ _ _ => Iff.rfl) ok1 f2 (ev.trans (.of f'.n lT)) (enumD_get (i := 0) hd) r2 q'
    · rintro σ' H' ⟨N', env', f', ev, q'⟩
      rw [← rs.length, show xs.length = (enumD 0 xs).length from enumD_len.symm, List.drop_length] at q'
      exact ok1.nx _ _ _ _ f' ev q'
  · exact q.elim)
end
end DL
set_option Elab.async false
set_option linter.all false
set_option maxRecDepth 100000
set_option maxHeartbeats 2000000
/-! tuples just displayed whose objects are known; in and index over data; constants of the module -/
namespace DL
open PySem PySem.Spec L2
open PyProof.Rows hiding St
section
variable {X : Cx} {F : FP} {a b e : Expr} {es : List Expr} {Ta Tb : TDE} {Tas : TDA} {pos p : Pos}
/-- a display whose object is told -/
def tTupF (t : TA) : TE := fun σ H Q => t σ H fun xs H1 => xs.length ≤ sizeLine ∧ ∀ (q : Addr) (o : Obj), o.dict = none → H1 q = none → Q (.ref q) (upd H1 q (.frz o (.tup xs)))
theorem pe_tupF {x1 : _} {t : TA} (h : PA X es t) : PE X (.Tuple es x1 pos) (tTupF t) := by
  refine ⟨fun pins s σ H Q I hq => wpAny_Tuple_spliced (thn (h.run pos pins s σ H _ I hq) fun us s1 got => ?_)⟩
  obtain ⟨xs, H1, I1, r, small, q⟩ := got
  refine ⟨by rw [← r.length]; exact small, ?_⟩
  have free := I1.hok.fresh (Nat.le_refl s1.heap.objs.size)
  generalize ho : ({ cls := .type "tuple", data := .seq us.toArray } : Obj) = o
  have at_ : (s1.heap.push o).get? s1.heap.objs.size = some o := Heap.get?_push_size _ (by rw [← ho]; rfl)
  have new : ObjOk X.prog X.w (upd H1 s1.heap.objs.size (.frz o (.tup xs))) (s1.heap.push o) s1.heap.objs.size (.frz o (.tup xs)) :=
    ⟨at_, small, us, r, ⟨o, at_, by rw [← ho], _, by rw [← ho]⟩⟩
  have J := I1.laid (t' := s1.toks) (fun _ _ e => Heap.get?_push_of_some _ e) (Nat.le_refl _) new
  subst ho
  exact ⟨.ref s1.heap.objs.size, _, J, rfl, q _ _ rfl free⟩
/-- a tuple displayed, its object known -/
def dTupK (T : TDA) : TDE := fun ξ env Q => T ξ env fun ds => ds.length ≤ sizeLine ∧ Q (.kt ds)
theorem d_tupK {x1 : _} (h : PA X es (tDA F Tas)) : PE X (.Tuple es x1 pos) (tD F (dTupK Tas)) := PE.imp (pe_tupF h) (by
  rintro σ H Q ⟨N, env, Qd, f, hT, k⟩
  refine ⟨N, env, _, f, hT, fun vs H1 ds e1 r1 q1 => ⟨by rw [← r1.length]; exact q1.1, fun q o od hq => ?_⟩⟩
  have n := (f.ext' e1).n
  refine k _ _ (.kt ds) (e1.trans (n.lay hq)) ⟨q, vs, o, rfl, n.fresh hq, upd_same, od, r1.ext (n.lay hq) n.z⟩ q1.2)
/-- what can be walked as a tuple or a list, compared -/
def itemsD : D → Option (List D)
  | .tup ds => some ds
  | .kt ds => some ds
  | .lst ds => some ds
  | _ => none
def inD (d : D) (ds : List D) : Bool := (toPs ds).any fun z => PyData.eqv z (toP d)
def gInD (neg : Bool) : G2 := fun x y Q => match itemsD y with
  | some ds => (eqOk x = true ∧ eqOk y = true) ∧ Q (.bl (if neg then !inD x ds else inD x ds))
  | none => False
def rInT (K : PySem.W.Frag) (neg : Bool) : R2 := fun x y H Q => ∃ d ds, Dp K H x d ∧ (Dp K H y (.tuple ds) ∨ Dp K H y (.list ds)) ∧ SeqAt.shaped d = true ∧ SeqAt.shaped (.tuple ds) = true ∧ Q (.bl (if neg then !(ds.any fun z => PyData.eqv z d) else ds.any fun z => PyData.eqv z d)) H
theorem shaped_tl {ds : List PyData} : SeqAt.shaped (.list ds) = SeqAt.shaped (.tuple ds) := by
  simp only [SeqAt.shaped, PyData.canLay0, PyData.depth]
  rfl
theorem op_inT (hu : X.A.units + 65 < cLine) : OpR X (compareOp .In) (rInT X.K false) := by
  intro pins s σ H x y v u Q I rx ry h
  obtain ⟨d, ds, hd, he, sd, se, q⟩ := h
  obtain ⟨as, r1⟩ := Dp.reads I d x v hd rx
  rcases he with he | he
  · obtain ⟨bs, r2⟩ := Dp.reads I (.tuple ds) y u he ry
    exact SeqAt.in_tuple_reads r2 r1 (SeqAt.canLay_of_shaped se) (SeqAt.canLay_of_shaped sd) (room_in_shaped sd hu) ⟨.bl _, H, I, rfl, q⟩
  · obtain ⟨bs, r2⟩ := Dp.reads I (.list ds) y u he ry
    exact SeqAt.in_list_reads r2 r1 (SeqAt.canLay_of_shaped se) (SeqAt.canLay_of_shaped sd) (room_in_shaped sd hu) ⟨.bl _, H, I, rfl, q⟩
theorem op_ninT (hu : X.A.units + 65 < cLine) : OpR X (compareOp .NotIn) (rInT X.K true) := by
  intro pins s σ H x y v u Q I rx ry h
  obtain ⟨d, ds, hd, he, sd, se, q⟩ := h
  obtain ⟨as, r1⟩ := Dp.reads I d x v hd rx
  rcases he with he | he
  · obtain ⟨bs, r2⟩ := Dp.reads I (.tuple ds) y u he ry
    exact SeqAt.notIn_tuple_reads r2 r1 (SeqAt.canLay_of_shaped se) (SeqAt.canLay_of_shaped sd) (room_in_shaped sd hu) ⟨.bl _, H, I, rfl, q⟩
  · obtain ⟨bs, r2⟩ := Dp.reads I (.list ds) y u he ry
    exact SeqAt.notIn_list_reads r2 r1 (SeqAt.canLay_of_shaped se) (SeqAt.canLay_of_shaped sd) (room_in_shaped sd hu) ⟨.bl _, H, I, rfl, q⟩
theorem opd_inD (neg : Bool) : OpD F (rInT F.K neg) (gInD neg) := ⟨by
  intro N H x y dx dy Qd Q n rx ry h k
  unfold gInD at h
  split at h
  · rename_i ds hds
    obtain ⟨⟨h1, h2⟩, q⟩ := h
    obtain ⟨p1, s1⟩ := Bool.and_eq_true_iff.mp h1
    obtain ⟨p2, s2⟩ := Bool.and_eq_true_iff.mp h2
    have r1 := Rep.dp dx x p1 rx
    have r2 := Rep.dp dy y p2 ry
    cases dy <;> first | (cases hds; done) | skip
    · cases hds
      exact ⟨_, toPs ds, r1, .inl r2, s1, s2, k _ _ _ Ext.refl rep_bl q⟩
    · cases hds
      exact ⟨_, toPs ds, r1, .inr r2, s1, by rw [← shaped_tl]; exact s2, k _ _ _ Ext.refl rep_bl q⟩
    · cases hds
      exact ⟨_, toPs ds, r1, .inl r2, s1, s2, k _ _ _ Ext.refl rep_bl q⟩
  · exact h.elim⟩
theorem d_inD (hK : F.K = X.K) (hu : X.A.units + 65 < cLine) (ha : PE X a (tD F Ta)) (hb : PE X b (tD F Tb)) (hm : behindInMarks .In b = false := by rfl) : PE X (.Compare a [.In] [b] pos) (tD F (dBin (gInD false) Ta Tb)) := by
  have o := opd_inD (F := F) false
  rw [hK] at o
  exact d_cmp (op_inT hu) o ha hb hm
theorem dt_inD (hK : F.K = X.K) (hu : X.A.units + 65 < cLine) (ha : PE X a (tD F Ta)) (hb : PE X b (tD F Tb)) (hm : behindInMarks .In b = false := by rfl) : PT X (.Compare a [.In] [b] pos) (tDT F (dTest (dBin (gInD false) Ta Tb))) := by
  have o := opd_inD (F := F) false
  rw [hK] at o
  exact dt_cmp (op_inT hu) o ha hb hm
theorem d_ninD (hK : F.K = X.K) (hu : X.A.units + 65 < cLine) (ha : PE X a (tD F Ta)) (hb : PE X b (tD F Tb)) (hm : behindInMarks .NotIn b = false := by rfl) : PE X (.Compare a [.NotIn] [b] pos) (tD F (dBin (gInD true) Ta Tb)) := by
  have o := opd_inD (F := F) true
  rw [hK] at o
  exact d_cmp (op_ninT hu) o ha hb hm
theorem dt_ninD (hK : F.K = X.K) (hu : X.A.units + 65 < cLine) (ha : PE X a (tD F Ta)) (hb : PE X b (tD F Tb)) (hm : behindInMarks .NotIn b = false := by rfl) : PT X (.Compare a [.NotIn] [b] pos) (tDT F (dTest (dBin (gInD true) Ta Tb))) := by
  have o := opd_inD (F := F) true
  rw [hK] at o
  exact dt_cmp (op_ninT hu) o ha hb hm
/-! ### t.index(x), the tuple's object known -/
def idxD (d : D) (ds : List D) : Option Nat := (toPs ds).findIdx? fun z => PyData.eqv z (toP d)
def dIdx (Ta Tb : TDE) : TDE := fun ξ env Q => Ta ξ env fun x => match x with
  | .kt ds => Tb ξ env fun y => (eqOk x = true ∧ eqOk y = true) ∧ match idxD y ds with
    | some j => Q (.int (j : Nat))
    | none => False
  | _ => False
def rIdx (K : PySem.W.Frag) : V → V → Hp → VK → Prop := fun x y H Q => ∃ (a : Addr) (d : PyData) (ds : List PyData) (j : Nat), x = V.ref a ∧ Dp K H x (.tuple ds) ∧ Dp K H y d ∧
  SeqAt.shaped (.tuple ds) = true ∧ SeqAt.shaped d = true ∧ (ds.findIdx? fun z => PyData.eqv z d) = some j ∧ Q (.int (j : Nat)) H
theorem run_idx {pins : List (Addr × Obj)} {s : Shared} {σ : L2.St} {H : Hp} {x y : V} {v u : Value} {Q : VK} (hu : X.A.units + 65 < cLine) (I : L2.Inv X pins σ H s) (rx : RelV x v) (ry : RelV y u) (h : rIdx X.K x y H Q) :
    wpAny (model X.prog X.w) X.A (call (.builtin "tuple.index") [v, u]) (EP X pins σ Q) X.xe s := by
  obtain ⟨a, d, ds, j, rfl, hl, hy, sl, sd, hj, q⟩ := h
  cases rx
  obtain ⟨bs, r1⟩ := Dp.reads I d y u hy ry
  have lay := SeqAt.canLay_of_shaped sl
  cases hl with
  | tup hs ha =>
    obtain ⟨its, rv, ⟨⟨cls, dd, data, sls⟩, at_, hc, n, hdt⟩, _⟩ := I.tuple hs
    simp only at hc hdt
    subst hc hdt
    obtain ⟨as, rd⟩ := Dp.readsAll I ds _ its ha rv
    have same : its.map (SeqAt.readOf s.heap) = ds := SeqAt.readsAll_map ds its as lay rd
    obtain ⟨hjd, hit, hno⟩ := List.findIdx?_eq_some_iff_getElem.mp hj
    have el : ∀ (m : Nat) (hm : m < its.toArray.size) (hm2 : m < ds.length), SeqAt.readOf s.heap its.toArray[m] = ds[m] := by
      intro m hm hm2
      have hml : m < its.length := by simpa using hm
      have e1 : (its.map (SeqAt.readOf s.heap))[m]? = some ds[m] := by rw [same]; exact List.getElem?_eq_getElem hm2
      rw [List.getElem?_map, List.getElem?_eq_getElem hml] at e1
      simpa using Option.some.inj e1
    have len : its.length = ds.length := by rw [← same, List.length_map]
    have hja : j < its.toArray.size := by rw [List.size_toArray, len]; exact hjd
    refine call_meets PySem.F.slot_tuple_index ⟨_, at_, rfl⟩ PySem.F.entry_tuple_index (PySem.F.args_tuple_index_2 _ _)
      (TI.tuple_indexAt a its.toArray n dd sls u (fun w => PyData.eqv (SeqAt.readOf s.heap w) d) j hja ?_ ?_)
      ⟨at_, SeqAt.items_eqAt (vs := its.toArray) (show ReadsAll s.heap its.toArray.toList ds as from rd) r1 lay (SeqAt.canLay_of_shaped sd) (room_in_shaped sd hu), .int (j : Nat), H, I.tok _, ⟨_, rfl⟩, q⟩
    · show PyData.eqv (SeqAt.readOf s.heap its.toArray[j]) d = true
      rw [el j hja hjd]
      exact hit
    · intro m hm lt
      have hm2 : m < ds.length := by rw [← len]; simpa using hm
      show PyData.eqv (SeqAt.readOf s.heap its.toArray[m]) d = false
      rw [el m hm hm2]
      exact Bool.eq_false_iff.mpr (hno m lt)
def tIdx (K : PySem.W.Frag) (ta : TE) (t : TA) : TE := fun σ H Q => ta σ H fun x H1 => (∃ (a : Addr) (o : Obj) (vs : List V), x = .ref a ∧ H1 a = some (.frz o (.tup vs)) ∧ o.dict = none) ∧ t σ H1 fun ys H2 => ∃ y, ys = [y] ∧ rIdx K x y H2 Q
theorem pe_idx {o e : Expr} {to : TE} {t : TA} {apos cpos : Pos} (hu : X.A.units + 65 < cLine) (ho : PE X o to) (ha : PA X [e] t) (hbase : attributeBase o "index" X.env (eval o X.env) = eval o X.env := by rfl)
    (hfew : ((backTo cpos (starEach [e] X.env)).all (fun x => !x.1) && (backToKw cpos (keywordEach [] X.env)).all (fun x => x.1.isSome) && decide ([e].length + ([] : List Keyword).length + (if ([] : List Keyword).isEmpty then 0 else 1) < 30)) = true := by rfl)
    (hline : (apos.endLine == cpos.line) = true := by rfl) (hs : starEach [e] X.env = (false, eval e X.env) :: starEach [] X.env := by rfl) (hplain : (backTo cpos (starEach [] X.env)).any (·.1) = false := by rfl) :
    PE X (.Call (.Attribute o "index" apos) [e] [] cpos) (tIdx X.K to t) := by
  refine ⟨fun pins s σ H Q I h => wpAny_Call_method_late hbase hfew hline rfl (thn (ho.run pins s σ H _ I h) fun v s1 got => ?_)⟩
  obtain ⟨x, H1, I1, r1, ⟨a, ob, vs, rfl, hf, od⟩, q1⟩ := got
  cases r1
  obtain ⟨at_, _, its, _, o2, p2, c2, _⟩ := I1.hok a _ hf
  rw [at_] at p2
  cases p2
  refine ⟨"tuple", "tuple.index", PySem.F.plainAttrs_tuple, PySem.F.slot_tuple_index, PySem.F.type_tuple_index, ⟨_, at_, c2⟩, fun b eb => by cases eb; exact ⟨_, at_, od⟩, ?_⟩
  have args := ha.run cpos pins s1 σ H1 _ I1 q1
  rw [hs] at args ⊢
  refine Calls.callWith_builtin (by show (false || (backTo cpos (starEach [] X.env)).any (·.1)) = false; rw [hplain] <;> rfl) (Calls.evalArgs_plain (thn args fun us s2 got => ?_))
  obtain ⟨ys, H2, I2, r2, y, rfl, q2⟩ := got
  cases r2 with
  | cons ry rest =>
    cases rest
    exact run_idx (x := .ref a) hu I2 rfl ry q2
theorem d_index {o e : Expr} {apos cpos : Pos} (hK : F.K = X.K) (hu : X.A.units + 65 < cLine) (ho : PE X o (tD F Ta)) (he : PE X e (tD F Tb)) (hbase : attributeBase o "index" X.env (eval o X.env) = eval o X.env := by rfl)
    (hfew : ((backTo cpos (starEach [e] X.env)).all (fun x => !x.1) && (backToKw cpos (keywordEach [] X.env)).all (fun x => x.1.isSome) && decide ([e].length + ([] : List Keyword).length + (if ([] : List Keyword).isEmpty then 0 else 1) < 30)) = true := by rfl)
    (hline : (apos.endLine == cpos.line) = true := by rfl) (hs : starEach [e] X.env = (false, eval e X.env) :: starEach [] X.env := by rfl) (hplain : (backTo cpos (starEach [] X.env)).any (·.1) = false := by rfl) :
    PE X (.Call (.Attribute o "index" apos) [e] [] cpos) (tD F (dIdx Ta Tb)) := PE.imp (pe_idx hu ho (da_cons he da_nil hs) hbase hfew hline hs hplain) (by
  rintro σ H Q ⟨N, env, Qd, f, hT, k⟩
  refine ⟨N, env, _, f, hT, fun x H1 dx e1 r1 q1 => ?_⟩
  split at q1
  · rename_i ds
    have r0 := r1
    obtain ⟨a, vs, ob, rfl, na, hf, od, rs⟩ := r1
    have f1 := f.ext' e1
    refine ⟨⟨a, ob, vs, rfl, hf, od⟩, N, env, (fun l => match l with
      | [y] => (eqOk (.kt ds) = true ∧ eqOk y = true) ∧ match idxD y ds with
        | some j => Qd (.int (j : Nat))
        | none => False
      | _ => False), f1, q1, fun ys H2 es e2 r2 q2 => ?_⟩
    dsimp only at q2
    split at q2
    · rename_i dy
      obtain ⟨y, _, rfl, ry, z⟩ := r2
      cases z
      obtain ⟨⟨h1, h2⟩, q⟩ := q2
      split at q
      · rename_i j hj
        obtain ⟨p1, s1⟩ := Bool.and_eq_true_iff.mp h1
        obtain ⟨p2, s2⟩ := Bool.and_eq_true_iff.mp h2
        have d1 := Rep.dp (.kt ds) _ p1 (r0.ext e2 f1.n.z)
        have d2 := Rep.dp dy _ p2 ry
        rw [hK] at d1 d2
        exact ⟨y, rfl, a, toP dy, toPs ds, j, rfl, d1, d2, s1, s2, hj, k _ _ _ (e1.trans e2) rep_int q⟩
      · exact q.elim
    · exact q2.elim
  · exact q1.elim)
/-! ### is not None -/
def gNotN : G2 := fun x y Q => match y with
  | .non => Q (.bl (!isNo x))
  | _ => False
theorem opd_notN : OpD F (fun x y H Q => y = .non ∧ Q (.bl (!decide (x = .non))) H) gNotN := ⟨by
  intro N H x y dx dy Qd Q n rx ry h k
  unfold gNotN at h
  split at h
  · cases (show y = .non from ry)
    refine ⟨rfl, k _ _ _ Ext.refl rep_bl ?_⟩
    rw [isNo_rep rx]
    exact h
  · exact h.elim⟩
theorem d_notN (ha : PE X a (tD F Ta)) (hb : PE X b (tD F Tb)) (hm : behindInMarks .IsNot b = false := by rfl) : PE X (.Compare a [.IsNot] [b] pos) (tD F (dBin gNotN Ta Tb)) := d_cmp op_notN opd_notN ha hb hm
theorem dt_notN (ha : PE X a (tD F Ta)) (hb : PE X b (tD F Tb)) (hm : behindInMarks .IsNot b = false := by rfl) : PT X (.Compare a [.IsNot] [b] pos) (tDT F (dTest (dBin gNotN Ta Tb))) := dt_cmp op_notN opd_notN ha hb hm
/-! ### constants of the module -/
theorem d_gstr {x s : Str} (hg : Gl X x) (hm : ∃ t, X.mg x = some (.str s t)) (hd : (x == ("__debug__" : Str)) = false := by decide) : PE X (.Name x pos) (tD F (dC (.str s))) := by
  obtain ⟨t, hm⟩ := hm
  exact d_const (v := .str s) (pe_glob hg hm ⟨t, rfl⟩ hd) fun _ _ => rfl
theorem d_gint {x : Str} {i : Int} (hg : Gl X x) (hm : ∃ t, X.mg x = some (.int i t)) (hd : (x == ("__debug__" : Str)) = false := by decide) : PE X (.Name x pos) (tD F (dC (.int i))) := by
  obtain ⟨t, hm⟩ := hm
  exact d_const (v := .int i) (pe_glob hg hm ⟨t, rfl⟩ hd) fun _ _ => rfl
end
def gstrB (K : PySem.W.Frag) (n s : Str) : Bool := match PySem.W.nsIn K mainGlobals n with
  | some (some (.str x _)) => decide (x = s)
  | _ => false
theorem gstr_ok {K : PySem.W.Frag} {h : Heap} {mg : Str → Option Value} (X : K.In h) (G : h.Ns mainGlobals mg) {n s : Str} (c : gstrB K n s = true) : ∃ t, mg n = some (.str s t) := by
  unfold gstrB at c
  split at c
  · rename_i x t e
    cases of_decide_eq_true c
    exact ⟨t, PySem.W.mg_of X G e⟩
  · cases c
def gintB (K : PySem.W.Frag) (n : Str) (i : Int) : Bool := match PySem.W.nsIn K mainGlobals n with
  | some (some (.int x _)) => decide (x = i)
  | _ => false
theorem gint_ok {K : PySem.W.Frag} {h : Heap} {mg : Str → Option Value} (X : K.In h) (G : h.Ns mainGlobals mg) {n : Str} {i : Int} (c : gintB K n i = true) : ∃ t, mg n = some (.int i t) := by
  unfold gintB at c
  split at c
  · rename_i x t e
    cases of_decide_eq_true c
    exact ⟨t, PySem.W.mg_of X G e⟩
  · cases c
end DL
namespace DL
open PySem PySem.Spec L2
theorem u65 {k : Nat} {A : Around} (r : Room k A) : A.units + 65 < cLine := Nat.lt_of_le_of_lt (Nat.add_le_add_left (by decide) _) (units80 r)
end DL
set_option Elab.async false
set_option linter.all false
set_option maxRecDepth 100000
set_option maxHeartbeats 2000000
/-! defaults, comprehensions over zip on one line, a < b < c < d -/
namespace DL
open PySem PySem.Spec L2
open PyProof.Rows hiding St
section
variable {X : Cx} {F : FP} {k n : Nat} {f : Addr} {fd : FuncData} {ps : List Str} {T : TF} {Tas : TDA} {x : Str} {p pos : Pos} {e : Expr} {es : List Expr} {dvs : List V} {dflt : List D}
/-- f(e, ..): the defaults fill up -/
def dCallD (n : Nat) (dflt : List D) (T : TF) (Ta : TDA) : TDE := fun ξ env Q => Ta ξ env fun ds => (ds ++ dflt).length = n ∧ T (fun _ => False) (ds ++ dflt) Q
theorem tCallD_imp (hK : F.K = X.K) (hdv : ∀ (Z : Zn) (N : Addr → Prop) (H : Hp), Reps X.K Z N H dflt dvs) : ∀ σ H Q, tD F (dCallD n dflt T Tas) σ H Q → tCall (spD X.K n T) dvs E0 (tDA F Tas) σ H Q := by
  rintro σ H Q ⟨N, env, Qd, f, hT, k⟩
  refine ⟨N, env, _, f, hT, fun vs H1 ds e1 r1 q1 => ?_⟩
  have n1 := (f.ext' e1).n
  refine ⟨F.Z, N, ds ++ dflt, Qd, _, by rw [← hK]; exact n1.bok, Reps.append (by rw [← hK]; exact r1) (hdv _ _ _), q1.1, q1.2, fun v H2 d e2 r2 q2 => k v H2 d (e1.trans e2) (by rw [hK]; exact r2) q2, fun _ _ _ _ _ _ z => z⟩
theorem d_callD (G : FnG X.prog X.w X.K X.mg X.base CX0 k f fd ps (spD X.K n T)) (hK : F.K = X.K) (hr : RoomG k X.A) (hg : Gl X x) (hm : X.mg x = some (.ref f)) (hk : PySem.W.keepIn X.K (.ref f) = true) (hb : ∃ ds, Vals dvs ds ∧ Binds X.K fd ps ds) (hdv : ∀ (Z : Zn) (N : Addr → Prop) (H : Hp), Reps X.K Z N H dflt dvs)
    (ha : PA X (e :: es) (tDA F Tas)) (hdb : (x == ("__debug__" : Str)) = false := by decide) (he : starEach (e :: es) X.env = (false, eval e X.env) :: starEach es X.env := by rfl) (hpl : (backTo pos (starEach es X.env)).any (·.1) = false := by rfl) :
    PE X (.Call (.Name x p) (e :: es) [] pos) (tD F (dCallD n dflt T Tas)) := by
  obtain ⟨ds, hd, hb⟩ := hb
  exact PE.imp (pe_callG G hr hg hm hk hb hd pass0 ha hdb he hpl) (tCallD_imp hK hdv)
theorem bD_full {K : PySem.W.Frag} (h : ∃ ds, Vals (([] : List V)) ds ∧ Binds K fd ps ds) : Binds K fd ps [] := by
  obtain ⟨ds, hd, hb⟩ := h
  cases hd
  exact hb
end
section
variable {X : Cx} {F : FP} {a b c d : Expr} {pos : Pos} {ta tb tc td : TE} {Ta Tb Tc Td : TDE}
def tChain3 (r r' r'' : R2) (ta tb tc td : TE) : TE := fun σ H Q => ta σ H fun x H1 => tb σ H1 fun y H2 => r x y H2 fun z H3 => ∃ k, z = .bl k ∧
  (if k = true then tc σ H3 fun w' H4 => r' y w' H4 fun z H5 => ∃ k, z = .bl k ∧ (if k = true then td σ H5 fun v H6 => r'' w' v H6 Q else Q (.bl false) H5) else Q (.bl false) H3)
theorem pe_chain3 {op op' op'' : CmpOp} {r r' r'' : R2} (ho : OpR X (compareOp op) r) (ho' : OpR X (compareOp op') r') (ho'' : OpR X (compareOp op'') r'') (ha : PE X a ta) (hb : PE X b tb) (hc : PE X c tc) (hd : PE X d td)
    (hm : lastMarks [op, op', op''] [b, c, d] = false := by with_unfolding_all rfl) : PE X (.Compare a [op, op', op''] [b, c, d] pos) (tChain3 r r' r'' ta tb tc td) := by
  refine ⟨fun pins s σ H Q I h => ?_⟩
  refine Compare_chain (thn (ha.run pins s σ H _ I h) fun v s1 ⟨x, H1, I1, r1, q1⟩ => chain_link (thn (hb.run pins s1 σ H1 _ I1 q1) fun u s2 ⟨y, H2, I2, r2, q2⟩ =>
    thn (ho pins s2 σ H2 x y v u _ I2 r1 r2 q2) fun d s3 ⟨z, H3, I3, r3, k, e, q3⟩ => ?_)) hm
  subst e
  cases r3
  refine wpAny_truthy_bool ?_
  cases k with
  | false => exact ite_ff ⟨.bl false, H3, I3, rfl, q3⟩
  | true =>
    refine ite_tt (chain_link (thn (hc.run pins s3 σ H3 _ I3 q3) fun w' s4 ⟨z', H4, I4, r4, q4⟩ => thn (ho' pins s4 σ H4 y z' u w' _ I4 r2 r4 q4) fun d s5 ⟨z, H5, I5, r5, k, e, q5⟩ => ?_))
    subst e
    cases r5
    refine wpAny_truthy_bool ?_
    cases k with
    | false => exact ite_ff ⟨.bl false, H5, I5, rfl, q5⟩
    | true => exact ite_tt (chain_last (thn (hd.run pins s5 σ H5 _ I5 q5) fun v' s6 ⟨x6, H6, I6, r6, q6⟩ => ho'' pins s6 σ H6 z' x6 w' v' Q I6 r4 r6 q6))
def dChain3 (g g' g'' : G2) (Ta Tb Tc Td : TDE) : TDE := fun ξ env Q => Ta ξ env fun x => Tb ξ env fun y => g x y fun z => match z with
  | .bl true => Tc ξ env fun w => g' y w fun z => match z with
    | .bl true => Td ξ env fun v => g'' w v Q
    | .bl false => Q (.bl false)
    | _ => False
  | .bl false => Q (.bl false)
  | _ => False
theorem chain3_imp {r r' r'' : R2} {g g' g'' : G2} (hg : OpD F r g) (hg' : OpD F r' g') (hg'' : OpD F r'' g'') : ∀ σ H Q, tD F (dChain3 g g' g'' Ta Tb Tc Td) σ H Q → tChain3 r r' r'' (tD F Ta) (tD F Tb) (tD F Tc) (tD F Td) σ H Q := by
  rintro σ H Q ⟨N, env, Qd, f, hT, k⟩
  refine ⟨N, env, _, f, hT, fun x H1 dx e1 rx q1 => ⟨N, env, _, f.ext' e1, q1, fun y H2 dy e2 ry q2 => ?_⟩⟩
  have f2 := (f.ext' e1).ext' e2
  refine hg.ok N H2 x y dx dy _ _ f2.n (rx.ext e2 f.n.z) ry q2 fun v H3 d e3 r3 q3 => ?_
  have f3 := f2.ext' e3
  have e := (e1.trans e2).trans e3
  split at q3
  · refine ⟨true, r3, ?_⟩
    rw [if_pos rfl]
    refine ⟨N, env, _, f3, q3, fun w H4 dw e4 rw' q4 => hg'.ok N H4 y w dy dw _ _ (f3.ext' e4).n (ry.ext (e3.trans e4) f.n.z) rw' q4 fun v H5 d5 e5 r5 q5 => ?_⟩
    have f5 := (f3.ext' e4).ext' e5
    split at q5
    · refine ⟨true, r5, ?_⟩
      rw [if_pos rfl]
      exact ⟨N, env, _, f5, q5, fun v H6 dv e6 rv q6 => hg''.ok N H6 w v dw dv _ _ (f5.ext' e6).n (rw'.ext (e5.trans e6) f.n.z) rv q6 fun v H7 d7 e7 r7 q7 => k v H7 d7 ((((e.trans e4).trans e5).trans e6).trans e7) r7 q7⟩
    · refine ⟨false, r5, ?_⟩
      rw [if_neg Bool.false_ne_true]
      exact k _ _ _ ((e.trans e4).trans e5) rep_bl q5
    · exact q5.elim
  · refine ⟨false, r3, ?_⟩
    rw [if_neg Bool.false_ne_true]
    exact k _ _ _ e rep_bl q3
  · exact q3.elim
theorem d_chain3 {op op' op'' : CmpOp} {r r' r'' : R2} {g g' g'' : G2} (ho : OpR X (compareOp op) r) (ho' : OpR X (compareOp op') r') (ho'' : OpR X (compareOp op'') r'') (hg : OpD F r g) (hg' : OpD F r' g') (hg'' : OpD F r'' g'') (ha : PE X a (tD F Ta)) (hb : PE X b (tD F Tb)) (hc : PE X c (tD F Tc)) (hd : PE X d (tD F Td))
    (hm : lastMarks [op, op', op''] [b, c, d] = false := by with_unfolding_all rfl) : PE X (.Compare a [op, op', op''] [b, c, d] pos) (tD F (dChain3 g g' g'' Ta Tb Tc Td)) := PE.imp (pe_chain3 ho ho' ho'' ha hb hc hd hm) (chain3_imp hg hg' hg'')
end
/-! ### x = [.. for a, b in zip(..)] on one line -/
section
variable {X : Cx} {F : FP} {Tas : TDA} {tt : TDT} {te : TDE} {i j l : Nat} {y : Str} {a b elt : Expr} {elts ifs : List Expr} {kk : Nat} {scope : Scope} {own : List (Str × Nat)} {pos p pos' tpos spos py : Pos}
theorem ds_setLcZ (hK : F.K = X.K) (hc : X.calm = true) (hN : X.N.Nodup) (hjl : j ≠ l) (hgl : Gl X "zip") (hm : X.mg "zip" = none) (ha : PA X [a, b] (tDA F Tas)) (ok : BlkOk X.N X.env.scope scope own) (hv : own.map (·.2) = [j, l]) (hy : X.N[i]? = some y) (hyl : X.env.scope.names.lookup y = some .local)
    (hsw : swapsWith (.ListComp elt [⟨.Tuple elts kk tpos, .Call (.Name "zip" p) [a, b] [] pos', ifs, 0⟩] scope pos) (some (.Name y py)) spos.line X.env = pure true)
    (hg : ∀ (s : Shared) (H : Hp) (C : Addr) (cl : List (Str × Addr)) (fp : List Addr), PG (X.blk s H scope (compEnvC scope cl C X.env) fp) (.Tuple elts kk tpos) (rZ X.K j l)) (ht : ∀ (s : Shared) (H : Hp) (C : Addr) (cl : List (Str × Addr)) (fp : List Addr), PTs (X.blk s H scope (compEnvC scope cl C X.env) fp) ifs (tDT F.calm tt))
    (he : ∀ (s : Shared) (H : Hp) (C : Addr) (cl : List (Str × Addr)) (fp : List Addr), PE (X.blk s H scope (compEnvC scope cl C X.env) fp) elt (tD F.calm te)) (hs1 : starEach [a, b] X.env = (false, eval a X.env) :: starEach [b] X.env := by rfl) (hpl : (backTo pos' (starEach [b] X.env)).any (·.1) = false := by rfl)
    (hs : ∀ x, foldedSetIterable (.Call (.Name "zip" p) [a, b] [] pos') X.env x = pure x := by intro _; rfl) :
    PS X (.Assign [.Name y py] (.ListComp elt [⟨.Tuple elts kk tpos, .Call (.Name "zip" p) [a, b] [] pos', ifs, 0⟩] scope pos) spos) (sD F (dAsg (dLcZ Tas j l tt te) (dgName i))) := by
  have z := ps_setLc hc hN hy hyl hsw (RZ.pi_zipA hgl hm ha hs1 hpl) ok hg ht he hs
  rw [hv] at z
  exact PS.imp z (setLc_imp (by rw [← hK]; exact lcZ_imp hjl))
def lLcZ (T : TDA) (j l : Nat) (tt : TDT) (te : TDE) : TDL := fun ξ env Q => T ξ env fun ds => match ds with
  | [.tup xs, .tup ys] => (xs.length = ys.length ∧ xs.length ≤ sizeLine) ∧ lcD (gZ j l) tt te (wipeD env [j, l]) (zipD xs ys) Q
  | _ => False
theorem lc_endLZ {N : Addr → Prop} {σ : L2.St} {H0 H1 H' : Hp} {env env0 : SE} {A : Addr} {all : List D} {Ql : List D → Prop} (f : FOk F N σ H1 env) (hA : H1 A = none) {G : TDG} {Q : VK} (f0 : FOk F N σ H0 env) (e : Ext F.Z H0 H1)
    (k : ∀ p vs H' ds, NewL F N σ H0 env p vs H' ds → Ql ds → Q (.ref p) H') {n : Nat} (hn : all.length = n) (L : LcAt F N H1 A G tt te env0 all (fun d => match d with | .lst ds => Ql ds | _ => False) n H') : Q (.ref A) H' := by
  obtain ⟨ext, acc, ds, h1, h2, h3, h4⟩ := L
  rw [← hn, List.drop_length] at h4
  have h4 : Ql (ds ++ []) := h4
  rw [List.append_nil] at h4
  exact k A acc H' ds ⟨e.trans ext, f.with' kp_lst hA ext h1, h1, f.nb hA, h3, f.ap (f.n.fresh hA), f0.n.fr e hA⟩ h4
theorem lcZ_impL (hjl : j ≠ l) : ∀ σ H Q, tDL F (lLcZ Tas j l tt te) σ H Q → tLc (RZ.iZipA F.K (tDA F Tas)) (rZ F.K j l) (tDT F.calm tt) (tD F.calm te) [j, l] σ H Q := by
  rintro σ H Q ⟨N, env, Qd, f, hT, k⟩
  refine ⟨N, env, _, f, hT, fun vs H1 ds e1 r q => ?_⟩
  split at q
  · rename_i xs ys
    obtain ⟨v1, _, rfl, ⟨a, us, rfl, ra, rs⟩, v2, _, rfl, ⟨b, ws, rfl, rb, rs2⟩, rfl⟩ := r
    have f1 := f.ext' e1
    obtain ⟨⟨hl, hz⟩, q⟩ := q
    have l1 := rs.length
    have l2 := rs2.length
    have lz : (zipD xs ys).length = us.length := by rw [zipD_len hl, l1]
    refine ⟨a, b, us, ws, rfl, .inr ⟨sqt_of ra, sqt_of rb, fun A hA => ?_⟩⟩
    refine ⟨fun i m H' => m = us.length - i ∧ i ≤ us.length ∧ LcAt F N H1 A (gZ j l) tt te (wipeD env [j, l]) (zipD xs ys) (fun d => match d with | .lst ds => Qd ds | _ => False) i H', ⟨us.length, rfl, Nat.zero_le _, lc_start f1.n hA q⟩, ?_⟩
    rintro i m H' ⟨rfl, hi, L⟩
    have qa : SqT F.K H' a us := by
      refine sqt_of (N := N) ?_
      rcases ra with ⟨n, ra⟩ | ra
      · exact .inl ⟨n, L.ext.keep a _ (fun z => n (f.n.z a z)) kp_tup ra⟩
      · exact .inr ra
    have qb : SqT F.K H' b ws := by
      refine sqt_of (N := N) ?_
      rcases rb with ⟨n, rb⟩ | rb
      · exact .inl ⟨n, L.ext.keep b _ (fun z => n (f.n.z b z)) kp_tup rb⟩
      · exact .inr rb
    by_cases hlt : i < us.length
    · have hx : us[i]? = some us[i] := List.getElem?_eq_getElem hlt
      have hlt2 : i < ws.length := by omega
      have hy : ws[i]? = some ws[i] := List.getElem?_eq_getElem hlt2
      refine .inr ⟨⟨us, ws, _, _, qa, qb, hx, hy⟩, fun H2 => LcAt F N H1 A (gZ j l) tt te (wipeD env [j, l]) (zipD xs ys) (fun d => match d with | .lst ds => Qd ds | _ => False) (i + 1) H2, fun H2 p => ⟨us.length - (i + 1), by omega, rfl, hlt, p⟩, ?_⟩
      rintro v H2 ⟨T, x', y', rfl, hT', rfl, g1, g2⟩
      obtain ⟨dx, hdx, rdx⟩ := rs.getV (g1 us qa)
      obtain ⟨dy, hdy, rdy⟩ := rs2.getV (g2 ws qb)
      exact lc_turnZ f1 hA hjl (by omega) (zipD_get hdx hdy) rdx rdy L hT'
    · have e : i = us.length := by omega
      subst e
      exact .inl ⟨⟨us, ws, qa, qb, .inl (Nat.le_refl _)⟩, lc_endLZ f1 hA f e1 k lz L⟩
  · exact q.elim
theorem ds_ownLcZ (hK : F.K = X.K) (hc : X.calm = true) (hN : X.N.Nodup) (hjl : j ≠ l) (hgl : Gl X "zip") (hm : X.mg "zip" = none) (ha : PA X [a, b] (tDA F Tas)) (ok : BlkOk X.N X.env.scope scope own) (hv : own.map (·.2) = [j, l]) (hy : X.N[i]? = some y) (hyl : X.env.scope.names.lookup y = some .local)
    (hsw : swapsWith (.ListComp elt [⟨.Tuple elts kk tpos, .Call (.Name "zip" p) [a, b] [] pos', ifs, 0⟩] scope pos) (some (.Name y py)) spos.line X.env = pure true)
    (hg : ∀ (s : Shared) (H : Hp) (C : Addr) (cl : List (Str × Addr)) (fp : List Addr), PG (X.blk s H scope (compEnvC scope cl C X.env) fp) (.Tuple elts kk tpos) (rZ X.K j l)) (ht : ∀ (s : Shared) (H : Hp) (C : Addr) (cl : List (Str × Addr)) (fp : List Addr), PTs (X.blk s H scope (compEnvC scope cl C X.env) fp) ifs (tDT F.calm tt))
    (he : ∀ (s : Shared) (H : Hp) (C : Addr) (cl : List (Str × Addr)) (fp : List Addr), PE (X.blk s H scope (compEnvC scope cl C X.env) fp) elt (tD F.calm te)) (hs1 : starEach [a, b] X.env = (false, eval a X.env) :: starEach [b] X.env := by rfl) (hpl : (backTo pos' (starEach [b] X.env)).any (·.1) = false := by rfl)
    (hs : ∀ x, foldedSetIterable (.Call (.Name "zip" p) [a, b] [] pos') X.env x = pure x := by intro _; rfl) :
    PS X (.Assign [.Name y py] (.ListComp elt [⟨.Tuple elts kk tpos, .Call (.Name "zip" p) [a, b] [] pos', ifs, 0⟩] scope pos) spos) (sD F (dOwn (lLcZ Tas j l tt te) i)) := by
  have z := ps_setLc hc hN hy hyl hsw (RZ.pi_zipA hgl hm ha hs1 hpl) ok hg ht he hs
  rw [hv] at z
  exact PS.imp z (ownLc_imp (by rw [← hK]; exact lcZ_impL hjl))
end
/-! ### min, max of a list of ints -/
def gExtL (up : Bool) : GA := fun xs Q => match xs with
  | [.lst ds] => match intsOf ds with
    | some ns => 0 < ns.length ∧ ∀ m, m ∈ ns → (∀ y, y ∈ ns → (if up = true then y ≤ m else m ≤ y)) → Q (.int m)
    | none => False
  | _ => False
theorem cd_maxL {F : FP} : CallD F (rMax F.K) (gExtL true) := ⟨by
  intro N H vs ds Qd Q n r h k
  unfold gExtL at h
  split at h
  · rename_i ds
    split at h
    · rename_i ns hb
      obtain ⟨v, r, rfl, h1, h2⟩ := r
      cases h2
      obtain ⟨a, vs, rfl, na, ra, rs⟩ := h1
      rw [intsOf_eq hb] at rs
      rw [rs.ints] at ra
      exact ⟨a, ns, rfl, SqL.of ra, h.1, fun m h1 h2 => k _ _ _ Ext.refl rep_int (h.2 m h1 fun y hy => by rw [if_pos rfl]; exact h2 y hy)⟩
    · exact h.elim
  · exact h.elim⟩
theorem cd_minL {F : FP} : CallD F (rMin F.K) (gExtL false) := ⟨by
  intro N H vs ds Qd Q n r h k
  unfold gExtL at h
  split at h
  · rename_i ds
    split at h
    · rename_i ns hb
      obtain ⟨v, r, rfl, h1, h2⟩ := r
      cases h2
      obtain ⟨a, vs, rfl, na, ra, rs⟩ := h1
      rw [intsOf_eq hb] at rs
      rw [rs.ints] at ra
      exact ⟨a, ns, rfl, SqL.of ra, h.1, fun m h1 h2 => k _ _ _ Ext.refl rep_int (h.2 m h1 fun y hy => by rw [if_neg Bool.false_ne_true]; exact h2 y hy)⟩
    · exact h.elim
  · exact h.elim⟩
end DL
set_option Elab.async false
set_option linter.all false
set_option maxRecDepth 100000
/-! `x != []` for lists of anything: their lengths are compared first -/
namespace DL
open PySem PySem.Spec L2
open PyProof.Rows hiding St
section
variable {X : Cx} {F : FP} {a b : Expr} {Ta Tb : TDE} {pos : Pos}
def rNeL (K : PySem.W.Frag) : R2 := fun x y H Q => ∃ a b vs ws, x = .ref a ∧ y = .ref b ∧ SqL K H a vs ∧ SqL K H b ws ∧ vs.length ≠ ws.length ∧ Q (.bl true) H
theorem op_neL (hu : X.A.units + 64 < cLine) : OpR X (compareOp .NotEq) (rNeL X.K) := by
  intro pins s σ H x y v u Q I rx ry h
  obtain ⟨a, b, vs, ws, rfl, rfl, h1, h2, hn, q⟩ := h
  cases rx
  cases ry
  obtain ⟨i1, r1, l1, _⟩ := I.list h1
  obtain ⟨i2, r2, l2, _⟩ := I.list h2
  have e1 := r1.length
  have e2 := r2.length
  exact SeqAt.RcNeAt.lists_lengths l1.isList l2.isList (by simp; omega) (by omega) X.prog X.w _ _ ⟨.bl _, H, I, rfl, q⟩
def gNeL : G2 := fun x y Q => match x, y with
  | .lst (_ :: _), .lst [] => Q (.bl true)
  | x, y => gNe x y Q
theorem opd_neL : OpD F (fun x y H Q => rNeL F.K x y H Q ∨ (rNeD F.K x y H Q ∨ rNe x y H Q)) gNeL := ⟨by
  intro N H x y dx dy Qd Q n rx ry h k
  unfold gNeL at h
  split at h
  · obtain ⟨a, vs, e1, _, r1, q1⟩ := rx
    obtain ⟨b, ws, e2, _, r2, q2⟩ := ry
    refine .inl ⟨a, b, vs, ws, e1, e2, .of r1, .of r2, ?_, k _ _ _ Ext.refl rep_bl h⟩
    rw [← q1.length, ← q2.length]
    simp
  · exact .inr ((opd_ne (F := F)).ok N H x y _ _ Qd Q n rx ry h k)⟩
theorem d_neL (hK : F.K = X.K) (hu : X.A.units + 64 < cLine) (ha : PE X a (tD F Ta)) (hb : PE X b (tD F Tb)) : PE X (.Compare a [.NotEq] [b] pos) (tD F (dBin gNeL Ta Tb)) := by
  have o := opd_neL (F := F)
  rw [hK] at o
  exact d_cmp ((op_neL hu).or ((op_neD hu).or op_ne)) o ha hb (nomark _)
theorem dt_neL (hK : F.K = X.K) (hu : X.A.units + 64 < cLine) (ha : PE X a (tD F Ta)) (hb : PE X b (tD F Tb)) : PT X (.Compare a [.NotEq] [b] pos) (tDT F (dTest (dBin gNeL Ta Tb))) := by
  have o := opd_neL (F := F)
  rw [hK] at o
  exact dt_cmp ((op_neL hu).or ((op_neD hu).or op_ne)) o ha hb (nomark _)
end
theorem neL {ds : List D} {Q : D → Prop} (q : Q (.bl (!ds.isEmpty))) : gNeL (.lst ds) (.lst []) Q := by
  cases ds with
  | nil => exact ⟨⟨by decide +kernel, by decide +kernel⟩, q⟩
  | cons d ds => exact q
end DL
set_option Elab.async false
set_option linter.all false
set_option maxRecDepth 100000
set_option maxHeartbeats 4000000
namespace K92
open PySem PySem.Spec L2 DL
open PyProof.Rows hiding St
def top (i : Nat) : Stmt := PySem.Challenge.pw_nevertwice_k92_overlaps_of_any_two_tiles.main.body.getD i (.Pass ⟨0, 0, 0, 0⟩)
abbrev s_is_plain_integer : Stmt := top 2
abbrev s_is_direction : Stmt := top 3
abbrev s_is_tuple_of : Stmt := top 4
abbrev s_are_plain_integers : Stmt := top 5
abbrev s_is_golden : Stmt := top 12
abbrev s_need_golden : Stmt := top 13
abbrev s__lowest : Stmt := top 14
abbrev s_reduced : Stmt := top 15
abbrev s_minus : Stmt := top 16
abbrev s_sign_of_parts : Stmt := top 17
abbrev s_sign : Stmt := top 18
abbrev s_with_part : Stmt := top 20
abbrev s_stepped : Stmt := top 21
abbrev s_is_row : Stmt := top 23
abbrev s_is_corner_row : Stmt := top 24
abbrev s__need_row : Stmt := top 25
abbrev s_point_of : Stmt := top 26
abbrev s_is_tile_row : Stmt := top 31
abbrev s_need_tile : Stmt := top 32
abbrev s_edges_of : Stmt := top 33
abbrev s_is_thick : Stmt := top 34
abbrev s_is_low : Stmt := top 35
abbrev s_marks_of : Stmt := top 36
abbrev s__place_of_edge : Stmt := top 37
abbrev s__is_left_at : Stmt := top 38
abbrev s_does_fit : Stmt := top 39
abbrev s__far_corner : Stmt := top 41
abbrev s__is_beside : Stmt := top 42
abbrev s_do_overlap : Stmt := top 43
abbrev s__law_deck : Stmt := top 45
abbrev s__law_draw : Stmt := top 46
abbrev s__law_pick : Stmt := top 47
abbrev s__law_sign : Stmt := top 48
abbrev s__law_is_integer : Stmt := top 49
abbrev s__law_up : Stmt := top 50
abbrev s__law_corners : Stmt := top 51
abbrev s__law_marked : Stmt := top 52
abbrev s__law_meeting : Stmt := top 53
abbrev s__law_choices : Stmt := top 54
abbrev s__law_do_overlap : Stmt := top 55
abbrev s__law_is_tile : Stmt := top 56
abbrev s__law_odd : Stmt := top 57
abbrev s__law_bent_tile : Stmt := top 58
abbrev s__law_great : Stmt := top 59
abbrev s__law_any_tile : Stmt := top 60
abbrev s__law_near : Stmt := top 61
abbrev s__law_bad : Stmt := top 62
abbrev s__law_is_parted : Stmt := top 63
abbrev s__law_is_pair_right : Stmt := top 64
abbrev s__law_is_refusal_right : Stmt := top 65
abbrev s_law : Stmt := top 66
abbrev FnP (K : PySem.W.Frag) (x : Str) (st : Stmt) (f : Addr) (fd : FuncData) : Prop := FunD K x x (defArgs st) (defBody st) (defScope st) [] [] f fd
abbrev FnPD (K : PySem.W.Frag) (x : Str) (st : Stmt) (dvs : List V) (f : Addr) (fd : FuncData) : Prop := FunD K x x (defArgs st) (defBody st) (defScope st) dvs [] f fd
def TN : List Str := ["_law_is_refusal_right"]
abbrev i_BadNumber : Stmt := initOf (top 8)
abbrev i_BadRow : Stmt := initOf (top 9)
abbrev i_BadTile : Stmt := initOf (top 10)
structure Tx (K : PySem.W.Frag) (mg : Str → Option Value) where
  a_is_plain_integer : Addr
  d_is_plain_integer : FuncData
  F_is_plain_integer : FnP K "is_plain_integer" s_is_plain_integer a_is_plain_integer d_is_plain_integer
  m_is_plain_integer : mg "is_plain_integer" = some (.ref a_is_plain_integer)
  a_is_direction : Addr
  d_is_direction : FuncData
  F_is_direction : FnP K "is_direction" s_is_direction a_is_direction d_is_direction
  m_is_direction : mg "is_direction" = some (.ref a_is_direction)
  a_is_tuple_of : Addr
  d_is_tuple_of : FuncData
  F_is_tuple_of : FnP K "is_tuple_of" s_is_tuple_of a_is_tuple_of d_is_tuple_of
  m_is_tuple_of : mg "is_tuple_of" = some (.ref a_is_tuple_of)
  a_are_plain_integers : Addr
  d_are_plain_integers : FuncData
  F_are_plain_integers : FnP K "are_plain_integers" s_are_plain_integers a_are_plain_integers d_are_plain_integers
  m_are_plain_integers : mg "are_plain_integers" = some (.ref a_are_plain_integers)
  a_is_golden : Addr
  d_is_golden : FuncData
  F_is_golden : FnP K "is_golden" s_is_golden a_is_golden d_is_golden
  m_is_golden : mg "is_golden" = some (.ref a_is_golden)
  a_need_golden : Addr
  d_need_golden : FuncData
  F_need_golden : FnP K "need_golden" s_need_golden a_need_golden d_need_golden
  m_need_golden : mg "need_golden" = some (.ref a_need_golden)
  a__lowest : Addr
  d__lowest : FuncData
  F__lowest : FnP K "_lowest" s__lowest a__lowest d__lowest
  m__lowest : mg "_lowest" = some (.ref a__lowest)
  a_reduced : Addr
  d_reduced : FuncData
  F_reduced : FnP K "reduced" s_reduced a_reduced d_reduced
  m_reduced : mg "reduced" = some (.ref a_reduced)
  a_minus : Addr
  d_minus : FuncData
  F_minus : FnP K "minus" s_minus a_minus d_minus
  m_minus : mg "minus" = some (.ref a_minus)
  a_sign_of_parts : Addr
  d_sign_of_parts : FuncData
  F_sign_of_parts : FnP K "sign_of_parts" s_sign_of_parts a_sign_of_parts d_sign_of_parts
  m_sign_of_parts : mg "sign_of_parts" = some (.ref a_sign_of_parts)
  a_sign : Addr
  d_sign : FuncData
  F_sign : FnP K "sign" s_sign a_sign d_sign
  m_sign : mg "sign" = some (.ref a_sign)
  a_with_part : Addr
  d_with_part : FuncData
  F_with_part : FnP K "with_part" s_with_part a_with_part d_with_part
  m_with_part : mg "with_part" = some (.ref a_with_part)
  a_stepped : Addr
  d_stepped : FuncData
  F_stepped : FnP K "stepped" s_stepped a_stepped d_stepped
  m_stepped : mg "stepped" = some (.ref a_stepped)
  a_is_row : Addr
  d_is_row : FuncData
  F_is_row : FnP K "is_row" s_is_row a_is_row d_is_row
  m_is_row : mg "is_row" = some (.ref a_is_row)
  a_is_corner_row : Addr
  d_is_corner_row : FuncData
  F_is_corner_row : FnP K "is_corner_row" s_is_corner_row a_is_corner_row d_is_corner_row
  m_is_corner_row : mg "is_corner_row" = some (.ref a_is_corner_row)
  a__need_row : Addr
  d__need_row : FuncData
  F__need_row : FnP K "_need_row" s__need_row a__need_row d__need_row
  m__need_row : mg "_need_row" = some (.ref a__need_row)
  a_point_of : Addr
  d_point_of : FuncData
  F_point_of : FnP K "point_of" s_point_of a_point_of d_point_of
  m_point_of : mg "point_of" = some (.ref a_point_of)
  a_is_tile_row : Addr
  d_is_tile_row : FuncData
  F_is_tile_row : FnP K "is_tile_row" s_is_tile_row a_is_tile_row d_is_tile_row
  m_is_tile_row : mg "is_tile_row" = some (.ref a_is_tile_row)
  a_need_tile : Addr
  d_need_tile : FuncData
  F_need_tile : FnP K "need_tile" s_need_tile a_need_tile d_need_tile
  m_need_tile : mg "need_tile" = some (.ref a_need_tile)
  a_edges_of : Addr
  d_edges_of : FuncData
  F_edges_of : FnP K "edges_of" s_edges_of a_edges_of d_edges_of
  m_edges_of : mg "edges_of" = some (.ref a_edges_of)
  a_is_thick : Addr
  d_is_thick : FuncData
  F_is_thick : FnP K "is_thick" s_is_thick a_is_thick d_is_thick
  m_is_thick : mg "is_thick" = some (.ref a_is_thick)
  a_is_low : Addr
  d_is_low : FuncData
  F_is_low : FnP K "is_low" s_is_low a_is_low d_is_low
  m_is_low : mg "is_low" = some (.ref a_is_low)
  a_marks_of : Addr
  d_marks_of : FuncData
  F_marks_of : FnP K "marks_of" s_marks_of a_marks_of d_marks_of
  m_marks_of : mg "marks_of" = some (.ref a_marks_of)
  a__place_of_edge : Addr
  d__place_of_edge : FuncData
  F__place_of_edge : FnP K "_place_of_edge" s__place_of_edge a__place_of_edge d__place_of_edge
  m__place_of_edge : mg "_place_of_edge" = some (.ref a__place_of_edge)
  a__is_left_at : Addr
  d__is_left_at : FuncData
  F__is_left_at : FnP K "_is_left_at" s__is_left_at a__is_left_at d__is_left_at
  m__is_left_at : mg "_is_left_at" = some (.ref a__is_left_at)
  a_does_fit : Addr
  d_does_fit : FuncData
  F_does_fit : FnP K "does_fit" s_does_fit a_does_fit d_does_fit
  m_does_fit : mg "does_fit" = some (.ref a_does_fit)
  a__far_corner : Addr
  d__far_corner : FuncData
  F__far_corner : FnP K "_far_corner" s__far_corner a__far_corner d__far_corner
  m__far_corner : mg "_far_corner" = some (.ref a__far_corner)
  a__is_beside : Addr
  d__is_beside : FuncData
  F__is_beside : FnP K "_is_beside" s__is_beside a__is_beside d__is_beside
  m__is_beside : mg "_is_beside" = some (.ref a__is_beside)
  a_do_overlap : Addr
  d_do_overlap : FuncData
  F_do_overlap : FnP K "do_overlap" s_do_overlap a_do_overlap d_do_overlap
  m_do_overlap : mg "do_overlap" = some (.ref a_do_overlap)
  a__law_deck : Addr
  d__law_deck : FuncData
  F__law_deck : FnP K "_law_deck" s__law_deck a__law_deck d__law_deck
  m__law_deck : mg "_law_deck" = some (.ref a__law_deck)
  a__law_draw : Addr
  d__law_draw : FuncData
  F__law_draw : FnP K "_law_draw" s__law_draw a__law_draw d__law_draw
  m__law_draw : mg "_law_draw" = some (.ref a__law_draw)
  a__law_pick : Addr
  d__law_pick : FuncData
  F__law_pick : FnP K "_law_pick" s__law_pick a__law_pick d__law_pick
  m__law_pick : mg "_law_pick" = some (.ref a__law_pick)
  a__law_sign : Addr
  d__law_sign : FuncData
  F__law_sign : FnP K "_law_sign" s__law_sign a__law_sign d__law_sign
  m__law_sign : mg "_law_sign" = some (.ref a__law_sign)
  a__law_is_integer : Addr
  d__law_is_integer : FuncData
  F__law_is_integer : FnP K "_law_is_integer" s__law_is_integer a__law_is_integer d__law_is_integer
  m__law_is_integer : mg "_law_is_integer" = some (.ref a__law_is_integer)
  a__law_up : Addr
  d__law_up : FuncData
  F__law_up : FnPD K "_law_up" s__law_up [.int (1)] a__law_up d__law_up
  m__law_up : mg "_law_up" = some (.ref a__law_up)
  a__law_corners : Addr
  d__law_corners : FuncData
  F__law_corners : FnP K "_law_corners" s__law_corners a__law_corners d__law_corners
  m__law_corners : mg "_law_corners" = some (.ref a__law_corners)
  a__law_marked : Addr
  d__law_marked : FuncData
  F__law_marked : FnP K "_law_marked" s__law_marked a__law_marked d__law_marked
  m__law_marked : mg "_law_marked" = some (.ref a__law_marked)
  a__law_meeting : Addr
  d__law_meeting : FuncData
  F__law_meeting : FnP K "_law_meeting" s__law_meeting a__law_meeting d__law_meeting
  m__law_meeting : mg "_law_meeting" = some (.ref a__law_meeting)
  a__law_choices : Addr
  d__law_choices : FuncData
  F__law_choices : FnP K "_law_choices" s__law_choices a__law_choices d__law_choices
  m__law_choices : mg "_law_choices" = some (.ref a__law_choices)
  a__law_do_overlap : Addr
  d__law_do_overlap : FuncData
  F__law_do_overlap : FnP K "_law_do_overlap" s__law_do_overlap a__law_do_overlap d__law_do_overlap
  m__law_do_overlap : mg "_law_do_overlap" = some (.ref a__law_do_overlap)
  a__law_is_tile : Addr
  d__law_is_tile : FuncData
  F__law_is_tile : FnP K "_law_is_tile" s__law_is_tile a__law_is_tile d__law_is_tile
  m__law_is_tile : mg "_law_is_tile" = some (.ref a__law_is_tile)
  a__law_odd : Addr
  d__law_odd : FuncData
  F__law_odd : FnP K "_law_odd" s__law_odd a__law_odd d__law_odd
  m__law_odd : mg "_law_odd" = some (.ref a__law_odd)
  a__law_bent_tile : Addr
  d__law_bent_tile : FuncData
  F__law_bent_tile : FnP K "_law_bent_tile" s__law_bent_tile a__law_bent_tile d__law_bent_tile
  m__law_bent_tile : mg "_law_bent_tile" = some (.ref a__law_bent_tile)
  a__law_great : Addr
  d__law_great : FuncData
  F__law_great : FnP K "_law_great" s__law_great a__law_great d__law_great
  m__law_great : mg "_law_great" = some (.ref a__law_great)
  a__law_any_tile : Addr
  d__law_any_tile : FuncData
  F__law_any_tile : FnP K "_law_any_tile" s__law_any_tile a__law_any_tile d__law_any_tile
  m__law_any_tile : mg "_law_any_tile" = some (.ref a__law_any_tile)
  a__law_near : Addr
  d__law_near : FuncData
  F__law_near : FnP K "_law_near" s__law_near a__law_near d__law_near
  m__law_near : mg "_law_near" = some (.ref a__law_near)
  a__law_bad : Addr
  d__law_bad : FuncData
  F__law_bad : FnP K "_law_bad" s__law_bad a__law_bad d__law_bad
  m__law_bad : mg "_law_bad" = some (.ref a__law_bad)
  a__law_is_parted : Addr
  d__law_is_parted : FuncData
  F__law_is_parted : FnP K "_law_is_parted" s__law_is_parted a__law_is_parted d__law_is_parted
  m__law_is_parted : mg "_law_is_parted" = some (.ref a__law_is_parted)
  a__law_is_pair_right : Addr
  d__law_is_pair_right : FuncData
  F__law_is_pair_right : FnP K "_law_is_pair_right" s__law_is_pair_right a__law_is_pair_right d__law_is_pair_right
  m__law_is_pair_right : mg "_law_is_pair_right" = some (.ref a__law_is_pair_right)
  a__law_is_refusal_right : Addr
  d__law_is_refusal_right : FuncData
  F__law_is_refusal_right : FnP K "_law_is_refusal_right" s__law_is_refusal_right a__law_is_refusal_right d__law_is_refusal_right
  m__law_is_refusal_right : mg "_law_is_refusal_right" = some (.ref a__law_is_refusal_right)
  a_law : Addr
  d_law : FuncData
  F_law : FnP K "law" s_law a_law d_law
  m_law : mg "law" = some (.ref a_law)
  n_abs : mg "abs" = none
  n_all : mg "all" = none
  n_bool : mg "bool" = none
  n_enumerate : mg "enumerate" = none
  n_int : mg "int" = none
  n_isinstance : mg "isinstance" = none
  n_len : mg "len" = none
  n_list : mg "list" = none
  n_max : mg "max" = none
  n_min : mg "min" = none
  n_range : mg "range" = none
  n_repr : mg "repr" = none
  n_sum : mg "sum" = none
  n_tuple : mg "tuple" = none
  n_zip : mg "zip" = none
  i_gcd : mg "gcd" = some (.builtin "math.gcd")
  k_DOWN : ∃ t, mg "DOWN" = some (.str "down" t)
  k_OUTER : ∃ t, mg "OUTER" = some (.str "outer" t)
  k_UP : ∃ t, mg "UP" = some (.str "up" t)
  mx : mxB K = true
  sm : smB K = true
  c_BadNumber : Addr
  f_BadNumber : Addr
  X_BadNumber : ExF K mg "BadNumber" "thing" c_BadNumber f_BadNumber
  j_BadNumber : FuncData
  G_BadNumber : FunD K "__init__" "BadNumber.__init__" (defArgs i_BadNumber) (defBody i_BadNumber) (defScope i_BadNumber) [] [] f_BadNumber j_BadNumber
  S_BadNumber : ∃ C, clsAt K "BadNumber" = .ref C ∧ ExIs K C
  c_BadRow : Addr
  f_BadRow : Addr
  X_BadRow : ExF K mg "BadRow" "thing" c_BadRow f_BadRow
  j_BadRow : FuncData
  G_BadRow : FunD K "__init__" "BadRow.__init__" (defArgs i_BadRow) (defBody i_BadRow) (defScope i_BadRow) [] [] f_BadRow j_BadRow
  S_BadRow : ∃ C, clsAt K "BadRow" = .ref C ∧ ExIs K C
  c_BadTile : Addr
  f_BadTile : Addr
  X_BadTile : ExF K mg "BadTile" "thing" c_BadTile f_BadTile
  j_BadTile : FuncData
  G_BadTile : FunD K "__init__" "BadTile.__init__" (defArgs i_BadTile) (defBody i_BadTile) (defScope i_BadTile) [] [] f_BadTile j_BadTile
  S_BadTile : ∃ C, clsAt K "BadTile" = .ref C ∧ ExIs K C
  r_BadTile : Addr
  R_BadTile : clsAt K "BadTile" = .ref r_BadTile ∧ mg "BadTile" = some (.ref r_BadTile)
  e_BadNumber_BadTile : PySem.W.exmOne K (clsAt K "BadNumber") (clsAt K "BadTile") = some false
  e_BadRow_BadTile : PySem.W.exmOne K (clsAt K "BadRow") (clsAt K "BadTile") = some false
  e_BadTile_BadTile : PySem.W.exmOne K (clsAt K "BadTile") (clsAt K "BadTile") = some true
  T__law_is_refusal_right : TabF K "_law_is_refusal_right"
  E__law_is_refusal_right : a__law_is_refusal_right = He.fAd K ("_law_is_refusal_right", none)
section
variable {P : Program} {w : World} {K : PySem.W.Frag} {mg : Str → Option Value} {base : Heap}
theorem it_BadNumber : InitTx "thing" (defBody i_BadNumber) (defScope i_BadNumber) := ⟨⟨_, _, _, _, rfl⟩, rfl, rfl, rfl, rfl, rfl, by decide, by decide, by decide⟩
theorem bi_BadNumber (t : Tx K mg) : Binds K t.j_BadNumber ["self", "thing"] [] := t.G_BadNumber.bindsN fun _ _ _ _ _ _ us hl => match us, hl with | [_, _], _ => rfl
theorem it_BadRow : InitTx "thing" (defBody i_BadRow) (defScope i_BadRow) := ⟨⟨_, _, _, _, rfl⟩, rfl, rfl, rfl, rfl, rfl, by decide, by decide, by decide⟩
theorem bi_BadRow (t : Tx K mg) : Binds K t.j_BadRow ["self", "thing"] [] := t.G_BadRow.bindsN fun _ _ _ _ _ _ us hl => match us, hl with | [_, _], _ => rfl
theorem it_BadTile : InitTx "thing" (defBody i_BadTile) (defScope i_BadTile) := ⟨⟨_, _, _, _, rfl⟩, rfl, rfl, rfl, rfl, rfl, by decide, by decide, by decide⟩
theorem bi_BadTile (t : Tx K mg) : Binds K t.j_BadTile ["self", "thing"] [] := t.G_BadTile.bindsN fun _ _ _ _ _ _ us hl => match us, hl with | [_, _], _ => rfl
def mm_BadTile (n : Str) : Option Bool := if n = "BadNumber" then some false else if n = "BadRow" then some false else if n = "BadTile" then some true else none
theorem hm_BadTile (t : Tx K mg) : ∀ n b, mm_BadTile n = some b → PySem.W.exmOne K (clsAt K n) (.ref t.r_BadTile) = some b := by
  intro n b h
  rw [← t.R_BadTile.1]
  unfold mm_BadTile at h
  split at h
  · rename_i e
    subst e
    cases h
    exact t.e_BadNumber_BadTile
  split at h
  · rename_i e
    subst e
    cases h
    exact t.e_BadRow_BadTile
  split at h
  · rename_i e
    subst e
    cases h
    exact t.e_BadTile_BadTile
  cases h
theorem xf_BadTile (t : Tx K mg) {n : Str} (h : mm_BadTile n = some true) : ∃ C, clsAt K n = .ref C ∧ XfC K C ∧ PySem.W.findIn K (.ref C) "thing" = some none := by
  unfold mm_BadTile at h
  split at h
  · rename_i e
    subst e
    exact ⟨_, t.X_BadNumber.at_, t.X_BadNumber.xf, t.X_BadNumber.no⟩
  split at h
  · rename_i e
    subst e
    exact ⟨_, t.X_BadRow.at_, t.X_BadRow.xf, t.X_BadRow.no⟩
  split at h
  · rename_i e
    subst e
    exact ⟨_, t.X_BadTile.at_, t.X_BadTile.xf, t.X_BadTile.no⟩
  cases h
theorem es_BadTile (t : Tx K mg) {n : Str} (h : mm_BadTile n = some true) : ∃ C, clsAt K n = .ref C ∧ ExIs K C := by
  unfold mm_BadTile at h
  split at h
  · rename_i e
    subst e
    exact t.S_BadNumber
  split at h
  · rename_i e
    subst e
    exact t.S_BadRow
  split at h
  · rename_i e
    subst e
    exact t.S_BadTile
  cases h
theorem sc_is_plain_integer : FnScope ["thing"] ["thing"] (defScope s_is_plain_integer) := ⟨rfl, rfl, rfl, by decide +kernel, rfl, by decide +kernel, by decide +kernel⟩
theorem b_is_plain_integer (t : Tx K mg) : Binds K t.d_is_plain_integer ["thing"] [] := t.F_is_plain_integer.bindsN fun _ _ _ _ _ _ us hl => match us, hl with | [_], _ => rfl
theorem sc_is_direction : FnScope ["thing"] ["thing"] (defScope s_is_direction) := ⟨rfl, rfl, rfl, by decide +kernel, rfl, by decide +kernel, by decide +kernel⟩
theorem b_is_direction (t : Tx K mg) : Binds K t.d_is_direction ["thing"] [] := t.F_is_direction.bindsN fun _ _ _ _ _ _ us hl => match us, hl with | [_], _ => rfl
theorem sc_is_tuple_of : FnScope ["thing", "many"] ["thing", "many"] (defScope s_is_tuple_of) := ⟨rfl, rfl, rfl, by decide +kernel, rfl, by decide +kernel, by decide +kernel⟩
theorem b_is_tuple_of (t : Tx K mg) : Binds K t.d_is_tuple_of ["thing", "many"] [] := t.F_is_tuple_of.bindsN fun _ _ _ _ _ _ us hl => match us, hl with | [_, _], _ => rfl
theorem sc_are_plain_integers : FnScope ["thing", "many", "part"] ["thing", "many"] (defScope s_are_plain_integers) := ⟨rfl, rfl, rfl, by decide +kernel, rfl, by decide +kernel, by decide +kernel⟩
theorem b_are_plain_integers (t : Tx K mg) : Binds K t.d_are_plain_integers ["thing", "many"] [] := t.F_are_plain_integers.bindsN fun _ _ _ _ _ _ us hl => match us, hl with | [_, _], _ => rfl
theorem sc_is_golden : FnScope ["thing", "a", "b", "d"] ["thing"] (defScope s_is_golden) := ⟨rfl, rfl, rfl, by decide +kernel, rfl, by decide +kernel, by decide +kernel⟩
theorem b_is_golden (t : Tx K mg) : Binds K t.d_is_golden ["thing"] [] := t.F_is_golden.bindsN fun _ _ _ _ _ _ us hl => match us, hl with | [_], _ => rfl
theorem sc_need_golden : FnScope ["thing"] ["thing"] (defScope s_need_golden) := ⟨rfl, rfl, rfl, by decide +kernel, rfl, by decide +kernel, by decide +kernel⟩
theorem b_need_golden (t : Tx K mg) : Binds K t.d_need_golden ["thing"] [] := t.F_need_golden.bindsN fun _ _ _ _ _ _ us hl => match us, hl with | [_], _ => rfl
theorem sc__lowest : FnScope ["a", "b", "d", "common"] ["a", "b", "d"] (defScope s__lowest) := ⟨rfl, rfl, rfl, by decide +kernel, rfl, by decide +kernel, by decide +kernel⟩
theorem b__lowest (t : Tx K mg) : Binds K t.d__lowest ["a", "b", "d"] [] := t.F__lowest.bindsN fun _ _ _ _ _ _ us hl => match us, hl with | [_, _, _], _ => rfl
theorem sc_reduced : FnScope ["number", "a", "b", "d"] ["number"] (defScope s_reduced) := ⟨rfl, rfl, rfl, by decide +kernel, rfl, by decide +kernel, by decide +kernel⟩
theorem b_reduced (t : Tx K mg) : Binds K t.d_reduced ["number"] [] := t.F_reduced.bindsN fun _ _ _ _ _ _ us hl => match us, hl with | [_], _ => rfl
theorem sc_minus : FnScope ["one", "other", "a", "b", "d", "c", "e", "f"] ["one", "other"] (defScope s_minus) := ⟨rfl, rfl, rfl, by decide +kernel, rfl, by decide +kernel, by decide +kernel⟩
theorem b_minus (t : Tx K mg) : Binds K t.d_minus ["one", "other"] [] := t.F_minus.bindsN fun _ _ _ _ _ _ us hl => match us, hl with | [_, _], _ => rfl
theorem sc_sign_of_parts : FnScope ["a", "b", "front", "does_front_win"] ["a", "b"] (defScope s_sign_of_parts) := ⟨rfl, rfl, rfl, by decide +kernel, rfl, by decide +kernel, by decide +kernel⟩
theorem b_sign_of_parts (t : Tx K mg) : Binds K t.d_sign_of_parts ["a", "b"] [] := t.F_sign_of_parts.bindsN fun _ _ _ _ _ _ us hl => match us, hl with | [_, _], _ => rfl
theorem sc_sign : FnScope ["number"] ["number"] (defScope s_sign) := ⟨rfl, rfl, rfl, by decide +kernel, rfl, by decide +kernel, by decide +kernel⟩
theorem b_sign (t : Tx K mg) : Binds K t.d_sign ["number"] [] := t.F_sign.bindsN fun _ _ _ _ _ _ us hl => match us, hl with | [_], _ => rfl
theorem sc_with_part : FnScope ["five", "direction", "part"] ["five", "direction", "part"] (defScope s_with_part) := ⟨rfl, rfl, rfl, by decide +kernel, rfl, by decide +kernel, by decide +kernel⟩
theorem b_with_part (t : Tx K mg) : Binds K t.d_with_part ["five", "direction", "part"] [] := t.F_with_part.bindsN fun _ _ _ _ _ _ us hl => match us, hl with | [_, _, _], _ => rfl
theorem sc_stepped : FnScope ["row", "direction", "by"] ["row", "direction", "by"] (defScope s_stepped) := ⟨rfl, rfl, rfl, by decide +kernel, rfl, by decide +kernel, by decide +kernel⟩
theorem b_stepped (t : Tx K mg) : Binds K t.d_stepped ["row", "direction", "by"] [] := t.F_stepped.bindsN fun _ _ _ _ _ _ us hl => match us, hl with | [_, _, _], _ => rfl
theorem sc_is_row : FnScope ["thing"] ["thing"] (defScope s_is_row) := ⟨rfl, rfl, rfl, by decide +kernel, rfl, by decide +kernel, by decide +kernel⟩
theorem b_is_row (t : Tx K mg) : Binds K t.d_is_row ["thing"] [] := t.F_is_row.bindsN fun _ _ _ _ _ _ us hl => match us, hl with | [_], _ => rfl
theorem sc_is_corner_row : FnScope ["thing"] ["thing"] (defScope s_is_corner_row) := ⟨rfl, rfl, rfl, by decide +kernel, rfl, by decide +kernel, by decide +kernel⟩
theorem b_is_corner_row (t : Tx K mg) : Binds K t.d_is_corner_row ["thing"] [] := t.F_is_corner_row.bindsN fun _ _ _ _ _ _ us hl => match us, hl with | [_], _ => rfl
theorem sc__need_row : FnScope ["thing"] ["thing"] (defScope s__need_row) := ⟨rfl, rfl, rfl, by decide +kernel, rfl, by decide +kernel, by decide +kernel⟩
theorem b__need_row (t : Tx K mg) : Binds K t.d__need_row ["thing"] [] := t.F__need_row.bindsN fun _ _ _ _ _ _ us hl => match us, hl with | [_], _ => rfl
theorem sc_point_of : FnScope ["row", "point", "j", "beside", "further"] ["row"] (defScope s_point_of) := ⟨rfl, rfl, rfl, by decide +kernel, rfl, by decide +kernel, by decide +kernel⟩
theorem b_point_of (t : Tx K mg) : Binds K t.d_point_of ["row"] [] := t.F_point_of.bindsN fun _ _ _ _ _ _ us hl => match us, hl with | [_], _ => rfl
theorem sc_is_tile_row : FnScope ["thing"] ["thing"] (defScope s_is_tile_row) := ⟨rfl, rfl, rfl, by decide +kernel, rfl, by decide +kernel, by decide +kernel⟩
theorem b_is_tile_row (t : Tx K mg) : Binds K t.d_is_tile_row ["thing"] [] := t.F_is_tile_row.bindsN fun _ _ _ _ _ _ us hl => match us, hl with | [_], _ => rfl
theorem sc_need_tile : FnScope ["thing"] ["thing"] (defScope s_need_tile) := ⟨rfl, rfl, rfl, by decide +kernel, rfl, by decide +kernel, by decide +kernel⟩
theorem b_need_tile (t : Tx K mg) : Binds K t.d_need_tile ["thing"] [] := t.F_need_tile.bindsN fun _ _ _ _ _ _ us hl => match us, hl with | [_], _ => rfl
theorem sc_edges_of : FnScope ["tile", "foot", "r", "s"] ["tile"] (defScope s_edges_of) := ⟨rfl, rfl, rfl, by decide +kernel, rfl, by decide +kernel, by decide +kernel⟩
theorem b_edges_of (t : Tx K mg) : Binds K t.d_edges_of ["tile"] [] := t.F_edges_of.bindsN fun _ _ _ _ _ _ us hl => match us, hl with | [_], _ => rfl
theorem sc_is_thick : FnScope ["tile"] ["tile"] (defScope s_is_thick) := ⟨rfl, rfl, rfl, by decide +kernel, rfl, by decide +kernel, by decide +kernel⟩
theorem b_is_thick (t : Tx K mg) : Binds K t.d_is_thick ["tile"] [] := t.F_is_thick.bindsN fun _ _ _ _ _ _ us hl => match us, hl with | [_], _ => rfl
theorem sc_is_low : FnScope ["tile"] ["tile"] (defScope s_is_low) := ⟨rfl, rfl, rfl, by decide +kernel, rfl, by decide +kernel, by decide +kernel⟩
theorem b_is_low (t : Tx K mg) : Binds K t.d_is_low ["tile"] [] := t.F_is_low.bindsN fun _ _ _ _ _ _ us hl => match us, hl with | [_], _ => rfl
theorem sc_marks_of : FnScope ["tile", "inner"] ["tile"] (defScope s_marks_of) := ⟨rfl, rfl, rfl, by decide +kernel, rfl, by decide +kernel, by decide +kernel⟩
theorem b_marks_of (t : Tx K mg) : Binds K t.d_marks_of ["tile"] [] := t.F_marks_of.bindsN fun _ _ _ _ _ _ us hl => match us, hl with | [_], _ => rfl
theorem sc__place_of_edge : FnScope ["tile", "thing", "edges"] ["tile", "thing"] (defScope s__place_of_edge) := ⟨rfl, rfl, rfl, by decide +kernel, rfl, by decide +kernel, by decide +kernel⟩
theorem b__place_of_edge (t : Tx K mg) : Binds K t.d__place_of_edge ["tile", "thing"] [] := t.F__place_of_edge.bindsN fun _ _ _ _ _ _ us hl => match us, hl with | [_, _], _ => rfl
theorem sc__is_left_at : FnScope ["tile", "place", "_", "r", "s", "is_along_r", "gap"] ["tile", "place"] (defScope s__is_left_at) := ⟨rfl, rfl, rfl, by decide +kernel, rfl, by decide +kernel, by decide +kernel⟩
theorem b__is_left_at (t : Tx K mg) : Binds K t.d__is_left_at ["tile", "place"] [] := t.F__is_left_at.bindsN fun _ _ _ _ _ _ us hl => match us, hl with | [_, _], _ => rfl
theorem sc_does_fit : FnScope ["one", "other", "place", "edge", "other_place", "do_marks_meet"] ["one", "other"] (defScope s_does_fit) := ⟨rfl, rfl, rfl, by decide +kernel, rfl, by decide +kernel, by decide +kernel⟩
theorem b_does_fit (t : Tx K mg) : Binds K t.d_does_fit ["one", "other"] [] := t.F_does_fit.bindsN fun _ _ _ _ _ _ us hl => match us, hl with | [_, _], _ => rfl
theorem sc__far_corner : FnScope ["tile", "direction", "offsets", "row", "j"] ["tile", "direction", "offsets"] (defScope s__far_corner) := ⟨rfl, rfl, rfl, by decide +kernel, rfl, by decide +kernel, by decide +kernel⟩
theorem b__far_corner (t : Tx K mg) : Binds K t.d__far_corner ["tile", "direction", "offsets"] [] := t.F__far_corner.bindsN fun _ _ _ _ _ _ us hl => match us, hl with | [_, _, _], _ => rfl
theorem sc__is_beside : FnScope ["one", "other", "direction", "highest", "lowest", "row", "part", "against", "near", "far"] ["one", "other", "direction"] (defScope s__is_beside) := ⟨rfl, rfl, rfl, by decide +kernel, rfl, by decide +kernel, by decide +kernel⟩
theorem b__is_beside (t : Tx K mg) : Binds K t.d__is_beside ["one", "other", "direction"] [] := t.F__is_beside.bindsN fun _ _ _ _ _ _ us hl => match us, hl with | [_, _, _], _ => rfl
theorem sc_do_overlap : FnScope ["one", "other", "direction"] ["one", "other"] (defScope s_do_overlap) := ⟨rfl, rfl, rfl, by decide +kernel, rfl, by decide +kernel, by decide +kernel⟩
theorem b_do_overlap (t : Tx K mg) : Binds K t.d_do_overlap ["one", "other"] [] := t.F_do_overlap.bindsN fun _ _ _ _ _ _ us hl => match us, hl with | [_, _], _ => rfl
theorem sc__law_deck : FnScope ["_law_script", "_law_mixed", "_law_cell"] ["_law_script"] (defScope s__law_deck) := ⟨rfl, rfl, rfl, by decide +kernel, rfl, by decide +kernel, by decide +kernel⟩
theorem b__law_deck (t : Tx K mg) : Binds K t.d__law_deck ["_law_script"] [] := t.F__law_deck.bindsN fun _ _ _ _ _ _ us hl => match us, hl with | [_], _ => rfl
theorem sc__law_draw : FnScope ["_law_deck_here", "_law_many", "_law_number", "_law_cell"] ["_law_deck_here", "_law_many"] (defScope s__law_draw) := ⟨rfl, rfl, rfl, by decide +kernel, rfl, by decide +kernel, by decide +kernel⟩
theorem b__law_draw (t : Tx K mg) : Binds K t.d__law_draw ["_law_deck_here", "_law_many"] [] := t.F__law_draw.bindsN fun _ _ _ _ _ _ us hl => match us, hl with | [_, _], _ => rfl
theorem sc__law_pick : FnScope ["_law_deck_here", "_law_some"] ["_law_deck_here", "_law_some"] (defScope s__law_pick) := ⟨rfl, rfl, rfl, by decide +kernel, rfl, by decide +kernel, by decide +kernel⟩
theorem b__law_pick (t : Tx K mg) : Binds K t.d__law_pick ["_law_deck_here", "_law_some"] [] := t.F__law_pick.bindsN fun _ _ _ _ _ _ us hl => match us, hl with | [_, _], _ => rfl
theorem sc__law_sign : FnScope ["_law_a", "_law_b", "_law_one", "_law_most"] ["_law_a", "_law_b"] (defScope s__law_sign) := ⟨rfl, rfl, rfl, by decide +kernel, rfl, by decide +kernel, by decide +kernel⟩
theorem b__law_sign (t : Tx K mg) : Binds K t.d__law_sign ["_law_a", "_law_b"] [] := t.F__law_sign.bindsN fun _ _ _ _ _ _ us hl => match us, hl with | [_, _], _ => rfl
theorem sc__law_is_integer : FnScope ["_law_thing"] ["_law_thing"] (defScope s__law_is_integer) := ⟨rfl, rfl, rfl, by decide +kernel, rfl, by decide +kernel, by decide +kernel⟩
theorem b__law_is_integer (t : Tx K mg) : Binds K t.d__law_is_integer ["_law_thing"] [] := t.F__law_is_integer.bindsN fun _ _ _ _ _ _ us hl => match us, hl with | [_], _ => rfl
theorem sc__law_up : FnScope ["_law_k", "_law_j", "_law_much"] ["_law_k", "_law_j", "_law_much"] (defScope s__law_up) := ⟨rfl, rfl, rfl, by decide +kernel, rfl, by decide +kernel, by decide +kernel⟩
theorem bd__law_up_2 (t : Tx K mg) : ∃ ds, Vals ([.int (1)] : List V) ds ∧ Binds K t.d__law_up ["_law_k", "_law_j", "_law_much"] ds := FunD.binds1 t.F__law_up 2 0 (fun z => by cases z) rfl fun _ _ _ _ _ _ _ us its hu hi => match us, hu, its, hi with | [_, _], _, [_], _ => ⟨_, rfl, rfl⟩
theorem bd__law_up_3 (t : Tx K mg) : ∃ ds, Vals ([] : List V) ds ∧ Binds K t.d__law_up ["_law_k", "_law_j", "_law_much"] ds := FunD.binds1 t.F__law_up 3 1 (fun z => by cases z) rfl fun _ _ _ _ _ _ _ us its hu hi => match us, hu, its, hi with | [_, _, _], _, [_], _ => ⟨_, rfl, rfl⟩
theorem b__law_up (t : Tx K mg) : Binds K t.d__law_up ["_law_k", "_law_j", "_law_much"] [] := bD_full (bd__law_up_3 t)
theorem sc__law_corners : FnScope ["_law_tile", "_law_k", "_law_r", "_law_s"] ["_law_tile"] (defScope s__law_corners) := ⟨rfl, rfl, rfl, by decide +kernel, rfl, by decide +kernel, by decide +kernel⟩
theorem b__law_corners (t : Tx K mg) : Binds K t.d__law_corners ["_law_tile"] [] := t.F__law_corners.bindsN fun _ _ _ _ _ _ us hl => match us, hl with | [_], _ => rfl
theorem sc__law_marked : FnScope ["_law_tile", "_law_k", "_law_r", "_law_s", "_law_word", "_law_found", "_law_x", "_law_j", "_law_away", "_law_is_near"] ["_law_tile"] (defScope s__law_marked) := ⟨rfl, rfl, rfl, by decide +kernel, rfl, by decide +kernel, by decide +kernel⟩
theorem b__law_marked (t : Tx K mg) : Binds K t.d__law_marked ["_law_tile"] [] := t.F__law_marked.bindsN fun _ _ _ _ _ _ us hl => match us, hl with | [_], _ => rfl
theorem sc__law_meeting : FnScope ["_law_one", "_law_other", "_law_edge", "_law_mark", "_law_on_left", "_law_edge2", "_law_mark2", "_law_on_left2"] ["_law_one", "_law_other"] (defScope s__law_meeting) := ⟨rfl, rfl, rfl, by decide +kernel, rfl, by decide +kernel, by decide +kernel⟩
theorem b__law_meeting (t : Tx K mg) : Binds K t.d__law_meeting ["_law_one", "_law_other"] [] := t.F__law_meeting.bindsN fun _ _ _ _ _ _ us hl => match us, hl with | [_, _], _ => rfl
theorem sc__law_choices : FnScope ["_law_edge", "_law_on_left", "_law_found", "_law_gap", "_law_s", "_law_foot"] ["_law_edge", "_law_on_left"] (defScope s__law_choices) := ⟨rfl, rfl, rfl, by decide +kernel, rfl, by decide +kernel, by decide +kernel⟩
theorem b__law_choices (t : Tx K mg) : Binds K t.d__law_choices ["_law_edge", "_law_on_left"] [] := t.F__law_choices.bindsN fun _ _ _ _ _ _ us hl => match us, hl with | [_, _], _ => rfl
theorem sc__law_do_overlap : FnScope ["_law_one", "_law_other", "_law_dirs", "_law_away", "_law_x", "_law_y", "_law_at", "_law_j", "_law_d", "_law_a", "_law_b"] ["_law_one", "_law_other"] (defScope s__law_do_overlap) := ⟨rfl, rfl, rfl, by decide +kernel, rfl, by decide +kernel, by decide +kernel⟩
theorem b__law_do_overlap (t : Tx K mg) : Binds K t.d__law_do_overlap ["_law_one", "_law_other"] [] := t.F__law_do_overlap.bindsN fun _ _ _ _ _ _ us hl => match us, hl with | [_, _], _ => rfl
theorem sc__law_is_tile : FnScope ["_law_thing", "_law_it"] ["_law_thing"] (defScope s__law_is_tile) := ⟨rfl, rfl, rfl, by decide +kernel, rfl, by decide +kernel, by decide +kernel⟩
theorem b__law_is_tile (t : Tx K mg) : Binds K t.d__law_is_tile ["_law_thing"] [] := t.F__law_is_tile.bindsN fun _ _ _ _ _ _ us hl => match us, hl with | [_], _ => rfl
theorem sc__law_odd : FnScope ["_law_deck_here", "_law_some"] ["_law_deck_here"] (defScope s__law_odd) := ⟨rfl, rfl, rfl, by decide +kernel, rfl, by decide +kernel, by decide +kernel⟩
theorem b__law_odd (t : Tx K mg) : Binds K t.d__law_odd ["_law_deck_here"] [] := t.F__law_odd.bindsN fun _ _ _ _ _ _ us hl => match us, hl with | [_], _ => rfl
theorem sc__law_bent_tile : FnScope ["_law_deck_here", "_law_tile", "_law_k", "_law_r", "_law_s", "_law_way", "_law_at"] ["_law_deck_here", "_law_tile"] (defScope s__law_bent_tile) := ⟨rfl, rfl, rfl, by decide +kernel, rfl, by decide +kernel, by decide +kernel⟩
theorem b__law_bent_tile (t : Tx K mg) : Binds K t.d__law_bent_tile ["_law_deck_here", "_law_tile"] [] := t.F__law_bent_tile.bindsN fun _ _ _ _ _ _ us hl => match us, hl with | [_, _], _ => rfl
theorem sc__law_great : FnScope ["_law_deck_here", "_law_found", "_law_turn"] ["_law_deck_here"] (defScope s__law_great) := ⟨rfl, rfl, rfl, by decide +kernel, rfl, by decide +kernel, by decide +kernel⟩
theorem b__law_great (t : Tx K mg) : Binds K t.d__law_great ["_law_deck_here"] [] := t.F__law_great.bindsN fun _ _ _ _ _ _ us hl => match us, hl with | [_], _ => rfl
theorem sc__law_any_tile : FnScope ["_law_deck_here", "_law_some", "_law_j", "_law_k", "_law_s"] ["_law_deck_here"] (defScope s__law_any_tile) := ⟨rfl, rfl, rfl, by decide +kernel, rfl, by decide +kernel, by decide +kernel⟩
theorem b__law_any_tile (t : Tx K mg) : Binds K t.d__law_any_tile ["_law_deck_here"] [] := t.F__law_any_tile.bindsN fun _ _ _ _ _ _ us hl => match us, hl with | [_], _ => rfl
theorem sc__law_near : FnScope ["_law_deck_here", "_law_tile", "_law_k", "_law_turn", "_law_j", "_law_s"] ["_law_deck_here", "_law_tile"] (defScope s__law_near) := ⟨rfl, rfl, rfl, by decide +kernel, rfl, by decide +kernel, by decide +kernel⟩
theorem b__law_near (t : Tx K mg) : Binds K t.d__law_near ["_law_deck_here", "_law_tile"] [] := t.F__law_near.bindsN fun _ _ _ _ _ _ us hl => match us, hl with | [_, _], _ => rfl
theorem sc__law_bad : FnScope ["_law_call", "_law_told", "_law_e"] ["_law_call"] (defScope s__law_bad) := ⟨rfl, rfl, rfl, by decide +kernel, rfl, by decide +kernel, by decide +kernel⟩
theorem b__law_bad (t : Tx K mg) : Binds K t.d__law_bad ["_law_call"] [] := t.F__law_bad.bindsN fun _ _ _ _ _ _ us hl => match us, hl with | [_], _ => rfl
theorem sc__law_is_parted : FnScope ["_law_one", "_law_other", "_law_near_here", "_law_k", "_law_far", "_law_d", "_law_ends", "_law_c", "_law_e"] ["_law_one", "_law_other"] (defScope s__law_is_parted) := ⟨rfl, rfl, rfl, by decide +kernel, rfl, by decide +kernel, by decide +kernel⟩
theorem b__law_is_parted (t : Tx K mg) : Binds K t.d__law_is_parted ["_law_one", "_law_other"] [] := t.F__law_is_parted.bindsN fun _ _ _ _ _ _ us hl => match us, hl with | [_, _], _ => rfl
theorem sc__law_is_pair_right : FnScope ["_law_deck_here", "_law_near_here", "_law_far", "_law_due", "_law_told"] ["_law_deck_here", "_law_near_here", "_law_far"] (defScope s__law_is_pair_right) := ⟨rfl, rfl, rfl, by decide +kernel, rfl, by decide +kernel, by decide +kernel⟩
theorem b__law_is_pair_right (t : Tx K mg) : Binds K t.d__law_is_pair_right ["_law_deck_here", "_law_near_here", "_law_far"] [] := t.F__law_is_pair_right.bindsN fun _ _ _ _ _ _ us hl => match us, hl with | [_, _, _], _ => rfl
theorem sc__law_is_refusal_right : FnScope ["_law_deck_here", "_law_near_here", "_law_far", "_law_one", "_law_other", "_law_some", "_law_was", "_law_it", "_law_told", "_law_due"] ["_law_deck_here", "_law_near_here", "_law_far"] (defScope s__law_is_refusal_right) := ⟨rfl, rfl, rfl, by decide +kernel, rfl, by decide +kernel, by decide +kernel⟩
theorem b__law_is_refusal_right (t : Tx K mg) : Binds K t.d__law_is_refusal_right ["_law_deck_here", "_law_near_here", "_law_far"] [] := t.F__law_is_refusal_right.bindsN fun _ _ _ _ _ _ us hl => match us, hl with | [_, _, _], _ => rfl
theorem sc_law : FnScope ["_law_script", "_law_deck_here", "_law_near_here", "_law_turn", "_law_far", "_law_edge", "_law_mark", "_law_on_left"] ["_law_script"] (defScope s_law) := ⟨rfl, rfl, rfl, by decide +kernel, rfl, by decide +kernel, by decide +kernel⟩
theorem b_law (t : Tx K mg) : Binds K t.d_law ["_law_script"] [] := t.F_law.bindsN fun _ _ _ _ _ _ us hl => match us, hl with | [_], _ => rfl
def T_is_plain_integer : TDS := (dRet (dAnd (dUn (gIs .int) (dVar 0)) (dNot (dUn (gIs .bool) (dVar 0)))))
def tf_is_plain_integer : TF := fun _ ds Q => tfOf 1 T_is_plain_integer (fun _ => False) ds Q
theorem ok_is_plain_integer (t : Tx K mg) : FnG P w K mg base CX0 1 t.a_is_plain_integer t.d_is_plain_integer ["thing"] (spD K 1 tf_is_plain_integer) := by
  have sc := sc_is_plain_integer
  exact fng_data (N := ["thing"]) (T := T_is_plain_integer) t.F_is_plain_integer sc fun cdv A outer s H E F hK hF room =>
    (ds_one (ds_ret (d_and (d_isi (T := .int) hK rfl t.n_isinstance rfl t.n_int (by decide +kernel) (d_var (pv 0))) (d_one (d_not (d_isi (T := .bool) hK rfl t.n_isinstance rfl t.n_bool (by decide +kernel) (d_var (pv 0))))))))
def T_is_direction : TDS := (dRet (dAnd (dCall 1 tf_is_plain_integer (dCons (dVar 0) dNil)) (dChain gLe gLe (dC (.int 0)) (dVar 0) (dC (.int 4)))))
def tf_is_direction : TF := fun _ ds Q => tfOf 1 T_is_direction (fun _ => False) ds Q
theorem ok_is_direction (t : Tx K mg) : FnG P w K mg base CX0 2 t.a_is_direction t.d_is_direction ["thing"] (spD K 1 tf_is_direction) := by
  have sc := sc_is_direction
  exact fng_data (N := ["thing"]) (T := T_is_direction) t.F_is_direction sc fun cdv A outer s H E F hK hF room =>
    (ds_one (ds_ret (d_and (d_call (ok_is_plain_integer t) hK (room.mono (by decide)) rfl t.m_is_plain_integer t.F_is_plain_integer.kp (b_is_plain_integer t) (da_cons (d_var (pv 0)) da_nil)) (d_one (d_chain op_le op_le od_le od_le d_int (d_var (pv 0)) d_int)))))
def T_is_tuple_of : TDS := (dRet (dAnd (dUn (gIs .tuple) (dVar 0)) (dBin gEq (dCB gLen (dCons (dVar 0) dNil)) (dVar 1))))
def tf_is_tuple_of : TF := fun _ ds Q => tfOf 2 T_is_tuple_of (fun _ => False) ds Q
theorem ok_is_tuple_of (t : Tx K mg) : FnG P w K mg base CX0 1 t.a_is_tuple_of t.d_is_tuple_of ["thing", "many"] (spD K 2 tf_is_tuple_of) := by
  have sc := sc_is_tuple_of
  exact fng_data (N := ["thing", "many"]) (T := T_is_tuple_of) t.F_is_tuple_of sc fun cdv A outer s H E F hK hF room =>
    (ds_one (ds_ret (d_and (d_isi (T := .tuple) hK rfl t.n_isinstance rfl t.n_tuple (by decide +kernel) (d_var (pv 0))) (d_one (d_eq hK room.r.units (d_callB (hK ▸ cd_len) call_len_seq rfl t.n_len (by decide +kernel) (da_cons (d_var (pv 0)) da_nil)) (d_var (pv 1)))))))
def T_are_plain_integers : TDS := (dRet (dAnd (dCall 2 tf_is_tuple_of (dCons (dVar 0) (dCons (dVar 1) dNil))) (dCB gAll (dCons (dLcV 0 2 dYes (dCall 1 tf_is_plain_integer (dCons (dVar 2) dNil))) dNil))))
def tf_are_plain_integers : TF := fun _ ds Q => tfOf 3 T_are_plain_integers (fun _ => False) ds Q
theorem ok_are_plain_integers (t : Tx K mg) : FnG P w K mg base CX0 2 t.a_are_plain_integers t.d_are_plain_integers ["thing", "many"] (spD K 2 tf_are_plain_integers) := by
  have sc := sc_are_plain_integers
  exact fng_data (N := ["thing", "many", "part"]) (T := T_are_plain_integers) t.F_are_plain_integers sc fun cdv A outer s H E F hK hF room =>
    (ds_one (ds_ret (d_and (d_call (ok_is_tuple_of t) hK (room.mono (by decide)) rfl t.m_is_tuple_of t.F_is_tuple_of.kp (b_is_tuple_of t) (da_cons (d_var (pv 0)) (da_cons (d_var (pv 1)) da_nil))) (d_one (d_callB (hK ▸ cd_all) (cr_all rfl) rfl t.n_all (by decide +kernel) (da_cons (d_lcV hK rfl sc.nd (pv 0) (blkOk_by (own := [("part", 2)]) (N := ["thing", "many", "part"]) (sc := defScope s_are_plain_integers) (by decide +kernel)) rfl (fun _ _ _ _ _ => pg_name (i := 2) sc.nd rfl (Or.inl rfl)) (fun _ _ _ _ _ => dts_nil) (fun _ _ _ _ _ => (d_call (ok_is_plain_integer t) hK (room.mono (by decide)) rfl t.m_is_plain_integer t.F_is_plain_integer.kp (b_is_plain_integer t) (da_cons (d_var (pv 2)) da_nil)))) da_nil))))))
def T_is_golden : TDS := (dSeq (dIfS (dtOr (dtNot (dTest (dUn (gIs .tuple) (dVar 0)))) (dTest (dBin gNe (dCB gLen (dCons (dVar 0) dNil)) (dC (.int 3)))))
    (dRet (dC (.bl false)))
    dNext)
    (dSeq (dAsg (dVar 0) (dgTup 3 (dgCons (dgName 1) (dgCons (dgName 2) (dgCons (dgName 3) dgNil)))))
    (dRet (dAnd (dCall 1 tf_is_plain_integer (dCons (dVar 1) dNil)) (dAnd (dCall 1 tf_is_plain_integer (dCons (dVar 2) dNil)) (dAnd (dCall 1 tf_is_plain_integer (dCons (dVar 3) dNil)) (dBin gGe (dVar 3) (dC (.int 1)))))))))
def tf_is_golden : TF := fun _ ds Q => tfOf 4 T_is_golden (fun _ => False) ds Q
theorem ok_is_golden (t : Tx K mg) : FnG P w K mg base CX0 2 t.a_is_golden t.d_is_golden ["thing"] (spD K 1 tf_is_golden) := by
  have sc := sc_is_golden
  exact fng_data (N := ["thing", "a", "b", "d"]) (T := T_is_golden) t.F_is_golden sc fun cdv A outer s H E F hK hF room =>
    (ds_cons (ds_if (PW.pt (dw_or (dt_not (dt_val (d_isi (T := .tuple) hK rfl t.n_isinstance rfl t.n_tuple (by decide +kernel) (d_var (pv 0))))) (dw_or1 (dt_ne hK room.r.units (d_callB (hK ▸ cd_len) call_len_seq rfl t.n_len (by decide +kernel) (da_cons (d_var (pv 0)) da_nil)) d_int))))
    (ds_one (ds_ret d_bl))
    ds_nil)
    (ds_cons (ds_asg (d_var (pv 0)) (dg_tup hK rfl (dgs_cons (dg_name (pg_name (i := 1) sc.nd rfl (by first | exact Or.inl rfl | exact Or.inr rfl))) (dgs_cons (dg_name (pg_name (i := 2) sc.nd rfl (by first | exact Or.inl rfl | exact Or.inr rfl))) (dgs_cons (dg_name (pg_name (i := 3) sc.nd rfl (by first | exact Or.inl rfl | exact Or.inr rfl))) dgs_nil)))))
    (ds_one (ds_ret (d_and (d_call (ok_is_plain_integer t) hK (room.mono (by decide)) rfl t.m_is_plain_integer t.F_is_plain_integer.kp (b_is_plain_integer t) (da_cons (d_var (pv 1)) da_nil)) (d_and (d_call (ok_is_plain_integer t) hK (room.mono (by decide)) rfl t.m_is_plain_integer t.F_is_plain_integer.kp (b_is_plain_integer t) (da_cons (d_var (pv 2)) da_nil)) (d_and (d_call (ok_is_plain_integer t) hK (room.mono (by decide)) rfl t.m_is_plain_integer t.F_is_plain_integer.kp (b_is_plain_integer t) (da_cons (d_var (pv 3)) da_nil)) (d_one (d_ge (d_var (pv 3)) d_int)))))))))
def T_need_golden : TDS := (dIfS (dtNot (dTest (dCall 1 tf_is_golden (dCons (dVar 0) dNil))))
    (dRaise1 "BadNumber" "thing" (dVar 0))
    dNext)
def tf_need_golden : TF := fun ξ ds Q => tfOf 1 T_need_golden ξ ds Q
theorem ok_need_golden (t : Tx K mg) : FnG P w K mg base (CX P w) 3 t.a_need_golden t.d_need_golden ["thing"] (spD K 1 tf_need_golden) := by
  have sc := sc_need_golden
  exact fng_dataX (N := ["thing"]) (T := T_need_golden) t.F_need_golden sc fun cdv A outer s H E F hK wo' room => have tk' : Takes (cxOf (CX P w) P w K mg base ["thing"] "need_golden" (defScope s_need_golden) t.a_need_golden cdv A outer s H E) (fun c od _ H' => E c od H') := takes_of rfl rfl rfl rfl
    (ds_one (ds_if (dt_not (dt_val (d_call (ok_is_golden t) hK (room.mono (by decide)) rfl t.m_is_golden t.F_is_golden.kp (b_is_golden t) (da_cons (d_var (pv 0)) da_nil))))
    (ds_one (ds_raise1 rfl tk' wo' hK t.X_BadNumber t.G_BadNumber (bi_BadNumber t) it_BadNumber room.r (d_var (pv 0)) rfl))
    ds_nil))
def T__lowest : TDS := (dSeq (dAsg (dCB gGcd3 (dCons (dVar 0) (dCons (dVar 1) (dCons (dVar 2) dNil)))) (dgName 3))
    (dSeq (dIfS (dTest (dBin gLt (dVar 2) (dC (.int 0))))
    (dAsg (dUn gNeg (dVar 3)) (dgName 3))
    dNext)
    (dRet (dTup (dCons (dBin gDivB (dVar 0) (dVar 3)) (dCons (dBin gDivB (dVar 1) (dVar 3)) (dCons (dBin gDivB (dVar 2) (dVar 3)) dNil)))))))
def tf__lowest : TF := fun _ ds Q => tfOf 4 T__lowest (fun _ => False) ds Q
theorem ok__lowest (t : Tx K mg) : FnG P w K mg base CX0 1 t.a__lowest t.d__lowest ["a", "b", "d"] (spD K 3 tf__lowest) := by
  have sc := sc__lowest
  exact fng_data (N := ["a", "b", "d", "common"]) (T := T__lowest) t.F__lowest sc fun cdv A outer s H E F hK hF room =>
    (ds_cons (ds_set (i := 3) sc.nd rfl (by first | exact Or.inl rfl | exact Or.inr rfl) (d_callBf cd_gcd3 cr_gcd3 rfl t.i_gcd (da_cons (d_var (pv 0)) (da_cons (d_var (pv 1)) (da_cons (d_var (pv 2)) da_nil)))))
    (ds_cons (ds_if (dt_lt (d_var (pv 2)) d_int)
    (ds_one (ds_set (i := 3) sc.nd rfl (by first | exact Or.inl rfl | exact Or.inr rfl) (d_neg (d_var (pv 3)))))
    ds_nil)
    (ds_one (ds_ret (d_tup (da_cons (d_divB (d_var (pv 0)) (d_var (pv 3))) (da_cons (d_divB (d_var (pv 1)) (d_var (pv 3))) (da_cons (d_divB (d_var (pv 2)) (d_var (pv 3))) da_nil))))))))
def T_reduced : TDS := (dSeq (dDrop (dCallX 1 tf_need_golden (dCons (dVar 0) dNil)))
    (dSeq (dAsg (dVar 0) (dgTup 3 (dgCons (dgName 1) (dgCons (dgName 2) (dgCons (dgName 3) dgNil)))))
    (dRet (dCall 3 tf__lowest (dCons (dVar 1) (dCons (dVar 2) (dCons (dVar 3) dNil)))))))
def tf_reduced : TF := fun ξ ds Q => tfOf 4 T_reduced ξ ds Q
theorem ok_reduced (t : Tx K mg) : FnG P w K mg base (CX P w) 4 t.a_reduced t.d_reduced ["number"] (spD K 1 tf_reduced) := by
  have sc := sc_reduced
  exact fng_dataX (N := ["number", "a", "b", "d"]) (T := T_reduced) t.F_reduced sc fun cdv A outer s H E F hK wo' room => have tk' : Takes (cxOf (CX P w) P w K mg base ["number", "a", "b", "d"] "reduced" (defScope s_reduced) t.a_reduced cdv A outer s H E) (fun c od _ H' => E c od H') := takes_of rfl rfl rfl rfl
    (ds_cons (ds_expr (d_callX (ok_need_golden t) tk' wo' hK (room.mono (by decide)) rfl t.m_need_golden t.F_need_golden.kp (b_need_golden t) (da_cons (d_var (pv 0)) da_nil)))
    (ds_cons (ds_asg (d_var (pv 0)) (dg_tup hK rfl (dgs_cons (dg_name (pg_name (i := 1) sc.nd rfl (by first | exact Or.inl rfl | exact Or.inr rfl))) (dgs_cons (dg_name (pg_name (i := 2) sc.nd rfl (by first | exact Or.inl rfl | exact Or.inr rfl))) (dgs_cons (dg_name (pg_name (i := 3) sc.nd rfl (by first | exact Or.inl rfl | exact Or.inr rfl))) dgs_nil)))))
    (ds_one (ds_ret (d_call (ok__lowest t) hK (room.mono (by decide)) rfl t.m__lowest t.F__lowest.kp (b__lowest t) (da_cons (d_var (pv 1)) (da_cons (d_var (pv 2)) (da_cons (d_var (pv 3)) da_nil))))))))
def T_minus : TDS := (dSeq (dDrop (dCallX 1 tf_need_golden (dCons (dVar 0) dNil)))
    (dSeq (dDrop (dCallX 1 tf_need_golden (dCons (dVar 1) dNil)))
    (dSeq (dAsg (dVar 0) (dgTup 3 (dgCons (dgName 2) (dgCons (dgName 3) (dgCons (dgName 4) dgNil)))))
    (dSeq (dAsg (dVar 1) (dgTup 3 (dgCons (dgName 5) (dgCons (dgName 6) (dgCons (dgName 7) dgNil)))))
    (dRet (dCall 3 tf__lowest (dCons (dBin gSub (dBin gMulA (dVar 2) (dVar 7)) (dBin gMulA (dVar 5) (dVar 4))) (dCons (dBin gSub (dBin gMulA (dVar 3) (dVar 7)) (dBin gMulA (dVar 6) (dVar 4))) (dCons (dBin gMulA (dVar 4) (dVar 7)) dNil)))))))))
def tf_minus : TF := fun ξ ds Q => tfOf 8 T_minus ξ ds Q
theorem ok_minus (t : Tx K mg) : FnG P w K mg base (CX P w) 4 t.a_minus t.d_minus ["one", "other"] (spD K 2 tf_minus) := by
  have sc := sc_minus
  exact fng_dataX (N := ["one", "other", "a", "b", "d", "c", "e", "f"]) (T := T_minus) t.F_minus sc fun cdv A outer s H E F hK wo' room => have tk' : Takes (cxOf (CX P w) P w K mg base ["one", "other", "a", "b", "d", "c", "e", "f"] "minus" (defScope s_minus) t.a_minus cdv A outer s H E) (fun c od _ H' => E c od H') := takes_of rfl rfl rfl rfl
    (ds_cons (ds_expr (d_callX (ok_need_golden t) tk' wo' hK (room.mono (by decide)) rfl t.m_need_golden t.F_need_golden.kp (b_need_golden t) (da_cons (d_var (pv 0)) da_nil)))
    (ds_cons (ds_expr (d_callX (ok_need_golden t) tk' wo' hK (room.mono (by decide)) rfl t.m_need_golden t.F_need_golden.kp (b_need_golden t) (da_cons (d_var (pv 1)) da_nil)))
    (ds_cons (ds_asg (d_var (pv 0)) (dg_tup hK rfl (dgs_cons (dg_name (pg_name (i := 2) sc.nd rfl (by first | exact Or.inl rfl | exact Or.inr rfl))) (dgs_cons (dg_name (pg_name (i := 3) sc.nd rfl (by first | exact Or.inl rfl | exact Or.inr rfl))) (dgs_cons (dg_name (pg_name (i := 4) sc.nd rfl (by first | exact Or.inl rfl | exact Or.inr rfl))) dgs_nil)))))
    (ds_cons (ds_asg (d_var (pv 1)) (dg_tup hK rfl (dgs_cons (dg_name (pg_name (i := 5) sc.nd rfl (by first | exact Or.inl rfl | exact Or.inr rfl))) (dgs_cons (dg_name (pg_name (i := 6) sc.nd rfl (by first | exact Or.inl rfl | exact Or.inr rfl))) (dgs_cons (dg_name (pg_name (i := 7) sc.nd rfl (by first | exact Or.inl rfl | exact Or.inr rfl))) dgs_nil)))))
    (ds_one (ds_ret (d_call (ok__lowest t) hK (room.mono (by decide)) rfl t.m__lowest t.F__lowest.kp (b__lowest t) (da_cons (d_sub (d_mulA (d_var (pv 2)) (d_var (pv 7))) (d_mulA (d_var (pv 5)) (d_var (pv 4)))) (da_cons (d_sub (d_mulA (d_var (pv 3)) (d_var (pv 7))) (d_mulA (d_var (pv 6)) (d_var (pv 4)))) (da_cons (d_mulA (d_var (pv 4)) (d_var (pv 7))) da_nil))))))))))
def T_sign_of_parts : TDS := (dSeq (dAsg (dBin gAddA (dBin gMulA (dC (.int 2)) (dVar 0)) (dVar 1)) (dgName 2))
    (dSeq (dIfS (dtAnd (dTest (dBin gGe (dVar 2) (dC (.int 0)))) (dTest (dBin gGe (dVar 1) (dC (.int 0)))))
    (dRet (dIf (dtOr (dTest (dBin gGt (dVar 2) (dC (.int 0)))) (dTest (dBin gGt (dVar 1) (dC (.int 0))))) (dC (.int 1)) (dC (.int 0))))
    dNext)
    (dSeq (dIfS (dtAnd (dTest (dBin gLe (dVar 2) (dC (.int 0)))) (dTest (dBin gLe (dVar 1) (dC (.int 0)))))
    (dRet (dUn gNeg (dC (.int 1))))
    dNext)
    (dSeq (dAsg (dBin gGt (dBin gMulA (dVar 2) (dVar 2)) (dBin gMulA (dBin gMulA (dC (.int 5)) (dVar 1)) (dVar 1))) (dgName 3))
    (dRet (dIf (dTest (dBin gEq (dVar 3) (dBin gGt (dVar 2) (dC (.int 0))))) (dC (.int 1)) (dUn gNeg (dC (.int 1)))))))))
def tf_sign_of_parts : TF := fun _ ds Q => tfOf 4 T_sign_of_parts (fun _ => False) ds Q
theorem ok_sign_of_parts (t : Tx K mg) : FnG P w K mg base CX0 1 t.a_sign_of_parts t.d_sign_of_parts ["a", "b"] (spD K 2 tf_sign_of_parts) := by
  have sc := sc_sign_of_parts
  exact fng_data (N := ["a", "b", "front", "does_front_win"]) (T := T_sign_of_parts) t.F_sign_of_parts sc fun cdv A outer s H E F hK hF room =>
    (ds_cons (ds_set (i := 2) sc.nd rfl (by first | exact Or.inl rfl | exact Or.inr rfl) (d_addA hK (d_mulA d_int (d_var (pv 0))) (d_var (pv 1))))
    (ds_cons (ds_if (PW.pt (dw_and (dt_ge (d_var (pv 2)) d_int) (dw_and1 (dt_ge (d_var (pv 1)) d_int))))
    (ds_one (ds_ret (d_if (PW.pt (dw_or (dt_gt (d_var (pv 2)) d_int) (dw_or1 (dt_gt (d_var (pv 1)) d_int)))) d_int d_int)))
    ds_nil)
    (ds_cons (ds_if (PW.pt (dw_and (dt_le (d_var (pv 2)) d_int) (dw_and1 (dt_le (d_var (pv 1)) d_int))))
    (ds_one (ds_ret (d_neg d_int)))
    ds_nil)
    (ds_cons (ds_set (i := 3) sc.nd rfl (by first | exact Or.inl rfl | exact Or.inr rfl) (d_gt (d_mulA (d_var (pv 2)) (d_var (pv 2))) (d_mulA (d_mulA d_int (d_var (pv 1))) (d_var (pv 1)))))
    (ds_one (ds_ret (d_if (dt_eq hK room.r.units (d_var (pv 3)) (d_gt (d_var (pv 2)) d_int)) d_int (d_neg d_int))))))))
def T_sign : TDS := (dSeq (dDrop (dCallX 1 tf_need_golden (dCons (dVar 0) dNil)))
    (dRet (dCall 2 tf_sign_of_parts (dCons (dBin gIx (dVar 0) (dC (.int 0))) (dCons (dBin gIx (dVar 0) (dC (.int 1))) dNil)))))
def tf_sign : TF := fun ξ ds Q => tfOf 1 T_sign ξ ds Q
theorem ok_sign (t : Tx K mg) : FnG P w K mg base (CX P w) 4 t.a_sign t.d_sign ["number"] (spD K 1 tf_sign) := by
  have sc := sc_sign
  exact fng_dataX (N := ["number"]) (T := T_sign) t.F_sign sc fun cdv A outer s H E F hK wo' room => have tk' : Takes (cxOf (CX P w) P w K mg base ["number"] "sign" (defScope s_sign) t.a_sign cdv A outer s H E) (fun c od _ H' => E c od H') := takes_of rfl rfl rfl rfl
    (ds_cons (ds_expr (d_callX (ok_need_golden t) tk' wo' hK (room.mono (by decide)) rfl t.m_need_golden t.F_need_golden.kp (b_need_golden t) (da_cons (d_var (pv 0)) da_nil)))
    (ds_one (ds_ret (d_call (ok_sign_of_parts t) hK (room.mono (by decide)) rfl t.m_sign_of_parts t.F_sign_of_parts.kp (b_sign_of_parts t) (da_cons (d_ix hK (d_var (pv 0)) d_int (fun _ _ => rfl)) (da_cons (d_ix hK (d_var (pv 0)) d_int (fun _ _ => rfl)) da_nil))))))
def T_with_part : TDS := (dRet (dBin gAddA (dBin gAddA (dSl (dVar 0) dNoPart (dPart (dVar 1))) (dTup (dCons (dVar 2) dNil))) (dSl (dVar 0) (dPart (dBin gAddA (dVar 1) (dC (.int 1)))) dNoPart)))
def tf_with_part : TF := fun _ ds Q => tfOf 3 T_with_part (fun _ => False) ds Q
theorem ok_with_part (t : Tx K mg) : FnG P w K mg base CX0 1 t.a_with_part t.d_with_part ["five", "direction", "part"] (spD K 3 tf_with_part) := by
  have sc := sc_with_part
  exact fng_data (N := ["five", "direction", "part"]) (T := T_with_part) t.F_with_part sc fun cdv A outer s H E F hK hF room =>
    (ds_one (ds_ret (d_addA hK (d_addA hK (d_slice hK (d_var (pv 0)) do_none (do_some (d_var (pv 1)))) (d_tup (da_cons (d_var (pv 2)) da_nil))) (d_slice hK (d_var (pv 0)) (do_some (d_addA hK (d_var (pv 1)) d_int)) do_none))))
def T_stepped : TDS := (dRet (dCall 3 tf_with_part (dCons (dVar 0) (dCons (dVar 1) (dCons (dBin gAddA (dBin gIx (dVar 0) (dVar 1)) (dVar 2)) dNil)))))
def tf_stepped : TF := fun _ ds Q => tfOf 3 T_stepped (fun _ => False) ds Q
theorem ok_stepped (t : Tx K mg) : FnG P w K mg base CX0 2 t.a_stepped t.d_stepped ["row", "direction", "by"] (spD K 3 tf_stepped) := by
  have sc := sc_stepped
  exact fng_data (N := ["row", "direction", "by"]) (T := T_stepped) t.F_stepped sc fun cdv A outer s H E F hK hF room =>
    (ds_one (ds_ret (d_call (ok_with_part t) hK (room.mono (by decide)) rfl t.m_with_part t.F_with_part.kp (b_with_part t) (da_cons (d_var (pv 0)) (da_cons (d_var (pv 1)) (da_cons (d_addA hK (d_ix hK (d_var (pv 0)) (d_var (pv 1)) (fun _ _ => rfl)) (d_var (pv 2))) da_nil))))))
def T_is_row : TDS := (dRet (dCall 2 tf_are_plain_integers (dCons (dVar 0) (dCons (dC (.int 5)) dNil))))
def tf_is_row : TF := fun _ ds Q => tfOf 1 T_is_row (fun _ => False) ds Q
theorem ok_is_row (t : Tx K mg) : FnG P w K mg base CX0 3 t.a_is_row t.d_is_row ["thing"] (spD K 1 tf_is_row) := by
  have sc := sc_is_row
  exact fng_data (N := ["thing"]) (T := T_is_row) t.F_is_row sc fun cdv A outer s H E F hK hF room =>
    (ds_one (ds_ret (d_call (ok_are_plain_integers t) hK (room.mono (by decide)) rfl t.m_are_plain_integers t.F_are_plain_integers.kp (b_are_plain_integers t) (da_cons (d_var (pv 0)) (da_cons d_int da_nil)))))
def T_is_corner_row : TDS := (dRet (dAnd (dCall 1 tf_is_row (dCons (dVar 0) dNil)) (dChain gLe gLe (dC (.int 1)) (dCB gSum (dCons (dVar 0) dNil)) (dC (.int 4)))))
def tf_is_corner_row : TF := fun _ ds Q => tfOf 1 T_is_corner_row (fun _ => False) ds Q
theorem ok_is_corner_row (t : Tx K mg) : FnG P w K mg base CX0 4 t.a_is_corner_row t.d_is_corner_row ["thing"] (spD K 1 tf_is_corner_row) := by
  have sc := sc_is_corner_row
  exact fng_data (N := ["thing"]) (T := T_is_corner_row) t.F_is_corner_row sc fun cdv A outer s H E F hK hF room =>
    (ds_one (ds_ret (d_and (d_call (ok_is_row t) hK (room.mono (by decide)) rfl t.m_is_row t.F_is_row.kp (b_is_row t) (da_cons (d_var (pv 0)) da_nil)) (d_one (d_chain op_le op_le od_le od_le d_int (d_callB (hK ▸ cd_sum) (cr_sumA rfl) rfl t.n_sum (by decide +kernel) (da_cons (d_var (pv 0)) da_nil)) d_int)))))
def T__need_row : TDS := (dIfS (dtNot (dTest (dCall 1 tf_is_row (dCons (dVar 0) dNil))))
    (dRaise1 "BadRow" "thing" (dVar 0))
    dNext)
def tf__need_row : TF := fun ξ ds Q => tfOf 1 T__need_row ξ ds Q
theorem ok__need_row (t : Tx K mg) : FnG P w K mg base (CX P w) 4 t.a__need_row t.d__need_row ["thing"] (spD K 1 tf__need_row) := by
  have sc := sc__need_row
  exact fng_dataX (N := ["thing"]) (T := T__need_row) t.F__need_row sc fun cdv A outer s H E F hK wo' room => have tk' : Takes (cxOf (CX P w) P w K mg base ["thing"] "_need_row" (defScope s__need_row) t.a__need_row cdv A outer s H E) (fun c od _ H' => E c od H') := takes_of rfl rfl rfl rfl
    (ds_one (ds_if (dt_not (dt_val (d_call (ok_is_row t) hK (room.mono (by decide)) rfl t.m_is_row t.F_is_row.kp (b_is_row t) (da_cons (d_var (pv 0)) da_nil))))
    (ds_one (ds_raise1 rfl tk' wo' hK t.X_BadRow t.G_BadRow (bi_BadRow t) it_BadRow room.r (d_var (pv 0)) rfl))
    ds_nil))
def T_point_of : TDS := (dSeq (dDrop (dCallX 1 tf__need_row (dCons (dVar 0) dNil)))
    (dSeq (dOwn (lLst dNil) 1)
    (dSeq (dForR (dCons (dC (.int 5)) dNil) (dgName 2)
    (dSeq (dAsg (dBin gAddA (dBin gIx (dVar 0) (dBin gSub (dVar 2) (dC (.int 1)))) (dBin gIx (dVar 0) (dBin gMod (dBin gAddA (dVar 2) (dC (.int 1))) (dC (.int 5))))) (dgName 3))
    (dSeq (dAsg (dBin gAddA (dBin gIx (dVar 0) (dBin gSub (dVar 2) (dC (.int 2)))) (dBin gIx (dVar 0) (dBin gMod (dBin gAddA (dVar 2) (dC (.int 2))) (dC (.int 5))))) (dgName 4))
    (dApp 1 (dCallX 1 tf_reduced (dCons (dTup (dCons (dBin gSub (dBin gMulA (dC (.int 2)) (dBin gIx (dVar 0) (dVar 2))) (dVar 3)) (dCons (dBin gSub (dVar 3) (dVar 4)) (dCons (dC (.int 2)) dNil)))) dNil))))))
    (dFreeze 1 (dRet (dCB gTuple (dCons (dVar 1) dNil)))))))
def tf_point_of : TF := fun ξ ds Q => tfOf 5 T_point_of ξ ds Q
theorem ok_point_of (t : Tx K mg) : FnG P w K mg base (CX P w) 5 t.a_point_of t.d_point_of ["row"] (spD K 1 tf_point_of) := by
  have sc := sc_point_of
  exact fng_dataX (N := ["row", "point", "j", "beside", "further"]) (T := T_point_of) t.F_point_of sc fun cdv A outer s H E F hK wo' room => have tk' : Takes (cxOf (CX P w) P w K mg base ["row", "point", "j", "beside", "further"] "point_of" (defScope s_point_of) t.a_point_of cdv A outer s H E) (fun c od _ H' => E c od H') := takes_of rfl rfl rfl rfl
    (ds_cons (ds_expr (d_callX (ok__need_row t) tk' wo' hK (room.mono (by decide)) rfl t.m__need_row t.F__need_row.kp (b__need_row t) (da_cons (d_var (pv 0)) da_nil)))
    (ds_cons (ds_own (i := 1) sc.nd rfl (by first | exact Or.inl rfl | exact Or.inr rfl) (l_lst da_nil))
    (ds_cons (ds_forR1 (passes_of rfl) rfl rfl t.n_range (da_cons d_int da_nil) (dg_name (pg_name (i := 2) sc.nd rfl (by first | exact Or.inl rfl | exact Or.inr rfl)))
    (ds_cons (ds_set (i := 3) sc.nd rfl (by first | exact Or.inl rfl | exact Or.inr rfl) (d_addA hK (d_ix hK (d_var (pv 0)) (d_sub (d_var (pv 2)) d_int) (fun _ _ => rfl)) (d_ix hK (d_var (pv 0)) (d_mod (d_addA hK (d_var (pv 2)) d_int) d_int) (fun _ _ => rfl))))
    (ds_cons (ds_set (i := 4) sc.nd rfl (by first | exact Or.inl rfl | exact Or.inr rfl) (d_addA hK (d_ix hK (d_var (pv 0)) (d_sub (d_var (pv 2)) d_int) (fun _ _ => rfl)) (d_ix hK (d_var (pv 0)) (d_mod (d_addA hK (d_var (pv 2)) d_int) d_int) (fun _ _ => rfl))))
    (ds_one (ds_app hK (pv 1) (d_callX (ok_reduced t) tk' wo' hK (room.mono (by decide)) rfl t.m_reduced t.F_reduced.kp (b_reduced t) (da_cons (d_tup (da_cons (d_sub (d_mulA d_int (d_ix hK (d_var (pv 0)) (d_var (pv 2)) (fun _ _ => rfl))) (d_var (pv 3))) (da_cons (d_sub (d_var (pv 3)) (d_var (pv 4))) (da_cons d_int da_nil)))) da_nil)))))))
    (dss_freeze (i := 1) (ds_one (ds_ret (d_callTy (hK ▸ cd_tuple) call_tuple_of rfl t.n_tuple (by decide +kernel) (da_cons (d_var (pv 1)) da_nil))))))))
def T_is_tile_row : TDS := (dSeq (dIfS (dtOr (dtNot (dTest (dCall 2 tf_is_tuple_of (dCons (dVar 0) (dCons (dC (.int 3)) dNil))))) (dtOr (dtNot (dTest (dCall 1 tf_is_corner_row (dCons (dBin gIx (dVar 0) (dC (.int 0))) dNil)))) (dTest (dBin gGt (dCB gSum (dCons (dBin gIx (dVar 0) (dC (.int 0))) dNil)) (dC (.int 2))))))
    (dRet (dC (.bl false)))
    dNext)
    (dRet (dAnd (dCall 1 tf_is_direction (dCons (dBin gIx (dVar 0) (dC (.int 1))) dNil)) (dAnd (dCall 1 tf_is_direction (dCons (dBin gIx (dVar 0) (dC (.int 2))) dNil)) (dBin gLt (dBin gIx (dVar 0) (dC (.int 1))) (dBin gIx (dVar 0) (dC (.int 2))))))))
def tf_is_tile_row : TF := fun _ ds Q => tfOf 1 T_is_tile_row (fun _ => False) ds Q
theorem ok_is_tile_row (t : Tx K mg) : FnG P w K mg base CX0 5 t.a_is_tile_row t.d_is_tile_row ["thing"] (spD K 1 tf_is_tile_row) := by
  have sc := sc_is_tile_row
  exact fng_data (N := ["thing"]) (T := T_is_tile_row) t.F_is_tile_row sc fun cdv A outer s H E F hK hF room =>
    (ds_cons (ds_if (PW.pt (dw_or (dt_not (dt_val (d_call (ok_is_tuple_of t) hK (room.mono (by decide)) rfl t.m_is_tuple_of t.F_is_tuple_of.kp (b_is_tuple_of t) (da_cons (d_var (pv 0)) (da_cons d_int da_nil))))) (dw_or (dt_not (dt_val (d_call (ok_is_corner_row t) hK (room.mono (by decide)) rfl t.m_is_corner_row t.F_is_corner_row.kp (b_is_corner_row t) (da_cons (d_ix hK (d_var (pv 0)) d_int (fun _ _ => rfl)) da_nil)))) (dw_or1 (dt_gt (d_callB (hK ▸ cd_sum) (cr_sumA rfl) rfl t.n_sum (by decide +kernel) (da_cons (d_ix hK (d_var (pv 0)) d_int (fun _ _ => rfl)) da_nil)) d_int)))))
    (ds_one (ds_ret d_bl))
    ds_nil)
    (ds_one (ds_ret (d_and (d_call (ok_is_direction t) hK (room.mono (by decide)) rfl t.m_is_direction t.F_is_direction.kp (b_is_direction t) (da_cons (d_ix hK (d_var (pv 0)) d_int (fun _ _ => rfl)) da_nil)) (d_and (d_call (ok_is_direction t) hK (room.mono (by decide)) rfl t.m_is_direction t.F_is_direction.kp (b_is_direction t) (da_cons (d_ix hK (d_var (pv 0)) d_int (fun _ _ => rfl)) da_nil)) (d_one (d_lt (d_ix hK (d_var (pv 0)) d_int (fun _ _ => rfl)) (d_ix hK (d_var (pv 0)) d_int (fun _ _ => rfl)))))))))
def T_need_tile : TDS := (dIfS (dtNot (dTest (dCall 1 tf_is_tile_row (dCons (dVar 0) dNil))))
    (dRaise1 "BadTile" "thing" (dVar 0))
    dNext)
def tf_need_tile : TF := fun ξ ds Q => tfOf 1 T_need_tile ξ ds Q
theorem ok_need_tile (t : Tx K mg) : FnG P w K mg base (CX P w) 6 t.a_need_tile t.d_need_tile ["thing"] (spD K 1 tf_need_tile) := by
  have sc := sc_need_tile
  exact fng_dataX (N := ["thing"]) (T := T_need_tile) t.F_need_tile sc fun cdv A outer s H E F hK wo' room => have tk' : Takes (cxOf (CX P w) P w K mg base ["thing"] "need_tile" (defScope s_need_tile) t.a_need_tile cdv A outer s H E) (fun c od _ H' => E c od H') := takes_of rfl rfl rfl rfl
    (ds_one (ds_if (dt_not (dt_val (d_call (ok_is_tile_row t) hK (room.mono (by decide)) rfl t.m_is_tile_row t.F_is_tile_row.kp (b_is_tile_row t) (da_cons (d_var (pv 0)) da_nil))))
    (ds_one (ds_raise1 rfl tk' wo' hK t.X_BadTile t.G_BadTile (bi_BadTile t) it_BadTile room.r (d_var (pv 0)) rfl))
    ds_nil))
def T_edges_of : TDS := (dSeq (dDrop (dCallX 1 tf_need_tile (dCons (dVar 0) dNil)))
    (dSeq (dAsg (dVar 0) (dgTup 3 (dgCons (dgName 1) (dgCons (dgName 2) (dgCons (dgName 3) dgNil)))))
    (dRet (dTup (dCons (dTup (dCons (dVar 1) (dCons (dVar 2) dNil))) (dCons (dTup (dCons (dVar 1) (dCons (dVar 3) dNil))) (dCons (dTup (dCons (dCall 3 tf_stepped (dCons (dVar 1) (dCons (dVar 3) (dCons (dC (.int 1)) dNil)))) (dCons (dVar 2) dNil))) (dCons (dTup (dCons (dCall 3 tf_stepped (dCons (dVar 1) (dCons (dVar 2) (dCons (dC (.int 1)) dNil)))) (dCons (dVar 3) dNil))) dNil))))))))
def tf_edges_of : TF := fun ξ ds Q => tfOf 4 T_edges_of ξ ds Q
theorem ok_edges_of (t : Tx K mg) : FnG P w K mg base (CX P w) 7 t.a_edges_of t.d_edges_of ["tile"] (spD K 1 tf_edges_of) := by
  have sc := sc_edges_of
  exact fng_dataX (N := ["tile", "foot", "r", "s"]) (T := T_edges_of) t.F_edges_of sc fun cdv A outer s H E F hK wo' room => have tk' : Takes (cxOf (CX P w) P w K mg base ["tile", "foot", "r", "s"] "edges_of" (defScope s_edges_of) t.a_edges_of cdv A outer s H E) (fun c od _ H' => E c od H') := takes_of rfl rfl rfl rfl
    (ds_cons (ds_expr (d_callX (ok_need_tile t) tk' wo' hK (room.mono (by decide)) rfl t.m_need_tile t.F_need_tile.kp (b_need_tile t) (da_cons (d_var (pv 0)) da_nil)))
    (ds_cons (ds_asg (d_var (pv 0)) (dg_tup hK rfl (dgs_cons (dg_name (pg_name (i := 1) sc.nd rfl (by first | exact Or.inl rfl | exact Or.inr rfl))) (dgs_cons (dg_name (pg_name (i := 2) sc.nd rfl (by first | exact Or.inl rfl | exact Or.inr rfl))) (dgs_cons (dg_name (pg_name (i := 3) sc.nd rfl (by first | exact Or.inl rfl | exact Or.inr rfl))) dgs_nil)))))
    (ds_one (ds_ret (d_tup (da_cons (d_tup (da_cons (d_var (pv 1)) (da_cons (d_var (pv 2)) da_nil))) (da_cons (d_tup (da_cons (d_var (pv 1)) (da_cons (d_var (pv 3)) da_nil))) (da_cons (d_tup (da_cons (d_call (ok_stepped t) hK (room.mono (by decide)) rfl t.m_stepped t.F_stepped.kp (b_stepped t) (da_cons (d_var (pv 1)) (da_cons (d_var (pv 3)) (da_cons d_int da_nil)))) (da_cons (d_var (pv 2)) da_nil))) (da_cons (d_tup (da_cons (d_call (ok_stepped t) hK (room.mono (by decide)) rfl t.m_stepped t.F_stepped.kp (b_stepped t) (da_cons (d_var (pv 1)) (da_cons (d_var (pv 2)) (da_cons d_int da_nil)))) (da_cons (d_var (pv 3)) da_nil))) da_nil)))))))))
def T_edges_of_K : TDS := (dSeq (dDrop (dCallX 1 tf_need_tile (dCons (dVar 0) dNil)))
    (dSeq (dAsg (dVar 0) (dgTup 3 (dgCons (dgName 1) (dgCons (dgName 2) (dgCons (dgName 3) dgNil)))))
    (dRet (dTupK (dCons (dTup (dCons (dVar 1) (dCons (dVar 2) dNil))) (dCons (dTup (dCons (dVar 1) (dCons (dVar 3) dNil))) (dCons (dTup (dCons (dCall 3 tf_stepped (dCons (dVar 1) (dCons (dVar 3) (dCons (dC (.int 1)) dNil)))) (dCons (dVar 2) dNil))) (dCons (dTup (dCons (dCall 3 tf_stepped (dCons (dVar 1) (dCons (dVar 2) (dCons (dC (.int 1)) dNil)))) (dCons (dVar 3) dNil))) dNil))))))))
def tf_edges_of_K : TF := fun ξ ds Q => tfOf 4 T_edges_of_K ξ ds Q
theorem ok_edges_of_K (t : Tx K mg) : FnG P w K mg base (CX P w) 7 t.a_edges_of t.d_edges_of ["tile"] (spD K 1 tf_edges_of_K) := by
  have sc := sc_edges_of
  exact fng_dataX (N := ["tile", "foot", "r", "s"]) (T := T_edges_of_K) t.F_edges_of sc fun cdv A outer s H E F hK wo' room => have tk' : Takes (cxOf (CX P w) P w K mg base ["tile", "foot", "r", "s"] "edges_of" (defScope s_edges_of) t.a_edges_of cdv A outer s H E) (fun c od _ H' => E c od H') := takes_of rfl rfl rfl rfl
    (ds_cons (ds_expr (d_callX (ok_need_tile t) tk' wo' hK (room.mono (by decide)) rfl t.m_need_tile t.F_need_tile.kp (b_need_tile t) (da_cons (d_var (pv 0)) da_nil)))
    (ds_cons (ds_asg (d_var (pv 0)) (dg_tup hK rfl (dgs_cons (dg_name (pg_name (i := 1) sc.nd rfl (by first | exact Or.inl rfl | exact Or.inr rfl))) (dgs_cons (dg_name (pg_name (i := 2) sc.nd rfl (by first | exact Or.inl rfl | exact Or.inr rfl))) (dgs_cons (dg_name (pg_name (i := 3) sc.nd rfl (by first | exact Or.inl rfl | exact Or.inr rfl))) dgs_nil)))))
    (ds_one (ds_ret (d_tupK (da_cons (d_tup (da_cons (d_var (pv 1)) (da_cons (d_var (pv 2)) da_nil))) (da_cons (d_tup (da_cons (d_var (pv 1)) (da_cons (d_var (pv 3)) da_nil))) (da_cons (d_tup (da_cons (d_call (ok_stepped t) hK (room.mono (by decide)) rfl t.m_stepped t.F_stepped.kp (b_stepped t) (da_cons (d_var (pv 1)) (da_cons (d_var (pv 3)) (da_cons d_int da_nil)))) (da_cons (d_var (pv 2)) da_nil))) (da_cons (d_tup (da_cons (d_call (ok_stepped t) hK (room.mono (by decide)) rfl t.m_stepped t.F_stepped.kp (b_stepped t) (da_cons (d_var (pv 1)) (da_cons (d_var (pv 2)) (da_cons d_int da_nil)))) (da_cons (d_var (pv 3)) da_nil))) da_nil)))))))))
def T_is_thick : TDS := (dSeq (dDrop (dCallX 1 tf_need_tile (dCons (dVar 0) dNil)))
    (dRet (dBin (gIn false) (dBin gSub (dBin gIx (dVar 0) (dC (.int 2))) (dBin gIx (dVar 0) (dC (.int 1)))) (dTup (dCons (dC (.int 1)) (dCons (dC (.int 4)) dNil))))))
def tf_is_thick : TF := fun ξ ds Q => tfOf 1 T_is_thick ξ ds Q
theorem ok_is_thick (t : Tx K mg) : FnG P w K mg base (CX P w) 7 t.a_is_thick t.d_is_thick ["tile"] (spD K 1 tf_is_thick) := by
  have sc := sc_is_thick
  exact fng_dataX (N := ["tile"]) (T := T_is_thick) t.F_is_thick sc fun cdv A outer s H E F hK wo' room => have tk' : Takes (cxOf (CX P w) P w K mg base ["tile"] "is_thick" (defScope s_is_thick) t.a_is_thick cdv A outer s H E) (fun c od _ H' => E c od H') := takes_of rfl rfl rfl rfl
    (ds_cons (ds_expr (d_callX (ok_need_tile t) tk' wo' hK (room.mono (by decide)) rfl t.m_need_tile t.F_need_tile.kp (b_need_tile t) (da_cons (d_var (pv 0)) da_nil)))
    (ds_one (ds_ret (d_in hK (d_sub (d_ix hK (d_var (pv 0)) d_int (fun _ _ => rfl)) (d_ix hK (d_var (pv 0)) d_int (fun _ _ => rfl))) (d_tup (da_cons d_int (da_cons d_int da_nil)))))))
def T_is_low : TDS := (dSeq (dDrop (dCallX 1 tf_need_tile (dCons (dVar 0) dNil)))
    (dRet (dBin gEq (dCB gSum (dCons (dBin gIx (dVar 0) (dC (.int 0))) dNil)) (dC (.int 1)))))
def tf_is_low : TF := fun ξ ds Q => tfOf 1 T_is_low ξ ds Q
theorem ok_is_low (t : Tx K mg) : FnG P w K mg base (CX P w) 7 t.a_is_low t.d_is_low ["tile"] (spD K 1 tf_is_low) := by
  have sc := sc_is_low
  exact fng_dataX (N := ["tile"]) (T := T_is_low) t.F_is_low sc fun cdv A outer s H E F hK wo' room => have tk' : Takes (cxOf (CX P w) P w K mg base ["tile"] "is_low" (defScope s_is_low) t.a_is_low cdv A outer s H E) (fun c od _ H' => E c od H') := takes_of rfl rfl rfl rfl
    (ds_cons (ds_expr (d_callX (ok_need_tile t) tk' wo' hK (room.mono (by decide)) rfl t.m_need_tile t.F_need_tile.kp (b_need_tile t) (da_cons (d_var (pv 0)) da_nil)))
    (ds_one (ds_ret (d_eq hK room.r.units (d_callB (hK ▸ cd_sum) (cr_sumA rfl) rfl t.n_sum (by decide +kernel) (da_cons (d_ix hK (d_var (pv 0)) d_int (fun _ _ => rfl)) da_nil)) d_int))))
def T_marks_of : TDS := (dSeq (dDrop (dCallX 1 tf_need_tile (dCons (dVar 0) dNil)))
    (dSeq (dAsg (dIf (dTest (dBin gEq (dCallX 1 tf_is_thick (dCons (dVar 0) dNil)) (dCallX 1 tf_is_low (dCons (dVar 0) dNil)))) (dC (.str "up")) (dC (.str "down"))) (dgName 1))
    (dSeq (dIfS (dTest (dCallX 1 tf_is_low (dCons (dVar 0) dNil)))
    (dRet (dTup (dCons (dC (.str "outer")) (dCons (dC (.str "outer")) (dCons (dVar 1) (dCons (dVar 1) dNil))))))
    dNext)
    (dRet (dTup (dCons (dVar 1) (dCons (dVar 1) (dCons (dC (.str "outer")) (dCons (dC (.str "outer")) dNil)))))))))
def tf_marks_of : TF := fun ξ ds Q => tfOf 2 T_marks_of ξ ds Q
theorem ok_marks_of (t : Tx K mg) : FnG P w K mg base (CX P w) 8 t.a_marks_of t.d_marks_of ["tile"] (spD K 1 tf_marks_of) := by
  have sc := sc_marks_of
  exact fng_dataX (N := ["tile", "inner"]) (T := T_marks_of) t.F_marks_of sc fun cdv A outer s H E F hK wo' room => have tk' : Takes (cxOf (CX P w) P w K mg base ["tile", "inner"] "marks_of" (defScope s_marks_of) t.a_marks_of cdv A outer s H E) (fun c od _ H' => E c od H') := takes_of rfl rfl rfl rfl
    (ds_cons (ds_expr (d_callX (ok_need_tile t) tk' wo' hK (room.mono (by decide)) rfl t.m_need_tile t.F_need_tile.kp (b_need_tile t) (da_cons (d_var (pv 0)) da_nil)))
    (ds_cons (ds_set (i := 1) sc.nd rfl (by first | exact Or.inl rfl | exact Or.inr rfl) (d_if (dt_eq hK room.r.units (d_callX (ok_is_thick t) tk' wo' hK (room.mono (by decide)) rfl t.m_is_thick t.F_is_thick.kp (b_is_thick t) (da_cons (d_var (pv 0)) da_nil)) (d_callX (ok_is_low t) tk' wo' hK (room.mono (by decide)) rfl t.m_is_low t.F_is_low.kp (b_is_low t) (da_cons (d_var (pv 0)) da_nil))) (d_gstr rfl t.k_UP) (d_gstr rfl t.k_DOWN)))
    (ds_cons (ds_if (dt_val (d_callX (ok_is_low t) tk' wo' hK (room.mono (by decide)) rfl t.m_is_low t.F_is_low.kp (b_is_low t) (da_cons (d_var (pv 0)) da_nil)))
    (ds_one (ds_ret (d_tup (da_cons (d_gstr rfl t.k_OUTER) (da_cons (d_gstr rfl t.k_OUTER) (da_cons (d_var (pv 1)) (da_cons (d_var (pv 1)) da_nil)))))))
    ds_nil)
    (ds_one (ds_ret (d_tup (da_cons (d_var (pv 1)) (da_cons (d_var (pv 1)) (da_cons (d_gstr rfl t.k_OUTER) (da_cons (d_gstr rfl t.k_OUTER) da_nil))))))))))
def T__place_of_edge : TDS := (dSeq (dIfS (dtOr (dtNot (dTest (dCall 2 tf_is_tuple_of (dCons (dVar 1) (dCons (dC (.int 2)) dNil))))) (dtOr (dtNot (dTest (dCall 1 tf_is_corner_row (dCons (dBin gIx (dVar 1) (dC (.int 0))) dNil)))) (dtNot (dTest (dCall 1 tf_is_direction (dCons (dBin gIx (dVar 1) (dC (.int 1))) dNil))))))
    (dRet (dC .non))
    dNext)
    (dSeq (dAsg (dCallX 1 tf_edges_of_K (dCons (dVar 0) dNil)) (dgName 2))
    (dRet (dIf (dTest (dBin (gInD false) (dVar 1) (dVar 2))) (dIdx (dVar 2) (dVar 1)) (dC .non)))))
def tf__place_of_edge : TF := fun ξ ds Q => tfOf 3 T__place_of_edge ξ ds Q
theorem ok__place_of_edge (t : Tx K mg) : FnG P w K mg base (CX P w) 8 t.a__place_of_edge t.d__place_of_edge ["tile", "thing"] (spD K 2 tf__place_of_edge) := by
  have sc := sc__place_of_edge
  exact fng_dataX (N := ["tile", "thing", "edges"]) (T := T__place_of_edge) t.F__place_of_edge sc fun cdv A outer s H E F hK wo' room => have tk' : Takes (cxOf (CX P w) P w K mg base ["tile", "thing", "edges"] "_place_of_edge" (defScope s__place_of_edge) t.a__place_of_edge cdv A outer s H E) (fun c od _ H' => E c od H') := takes_of rfl rfl rfl rfl
    (ds_cons (ds_if (PW.pt (dw_or (dt_not (dt_val (d_call (ok_is_tuple_of t) hK (room.mono (by decide)) rfl t.m_is_tuple_of t.F_is_tuple_of.kp (b_is_tuple_of t) (da_cons (d_var (pv 1)) (da_cons d_int da_nil))))) (dw_or (dt_not (dt_val (d_call (ok_is_corner_row t) hK (room.mono (by decide)) rfl t.m_is_corner_row t.F_is_corner_row.kp (b_is_corner_row t) (da_cons (d_ix hK (d_var (pv 1)) d_int (fun _ _ => rfl)) da_nil)))) (dw_or1 (dt_not (dt_val (d_call (ok_is_direction t) hK (room.mono (by decide)) rfl t.m_is_direction t.F_is_direction.kp (b_is_direction t) (da_cons (d_ix hK (d_var (pv 1)) d_int (fun _ _ => rfl)) da_nil))))))))
    (ds_one (ds_ret d_non))
    ds_nil)
    (ds_cons (ds_set (i := 2) sc.nd rfl (by first | exact Or.inl rfl | exact Or.inr rfl) (d_callX (ok_edges_of_K t) tk' wo' hK (room.mono (by decide)) rfl t.m_edges_of t.F_edges_of.kp (b_edges_of t) (da_cons (d_var (pv 0)) da_nil)))
    (ds_one (ds_ret (d_if (dt_inD hK (u65 room.r) (d_var (pv 1)) (d_var (pv 2))) (d_index hK (u65 room.r) (d_var (pv 2)) (d_var (pv 1))) d_non)))))
def T__is_left_at : TDS := (dSeq (dAsg (dVar 0) (dgTup 3 (dgCons (dgName 2) (dgCons (dgName 3) (dgCons (dgName 4) dgNil)))))
    (dSeq (dAsg (dBin (gIn false) (dVar 1) (dTup (dCons (dC (.int 0)) (dCons (dC (.int 2)) dNil)))) (dgName 5))
    (dSeq (dAsg (dIf (dTruI (dVar 5)) (dBin gMod (dBin gSub (dVar 4) (dVar 3)) (dC (.int 5))) (dBin gMod (dBin gSub (dVar 3) (dVar 4)) (dC (.int 5)))) (dgName 6))
    (dRet (dIf (dTest (dBin gLt (dVar 1) (dC (.int 2)))) (dBin (gIn false) (dVar 6) (dTup (dCons (dC (.int 1)) (dCons (dC (.int 2)) dNil)))) (dBin (gIn false) (dVar 6) (dTup (dCons (dC (.int 3)) (dCons (dC (.int 4)) dNil)))))))))
def tf__is_left_at : TF := fun _ ds Q => tfOf 7 T__is_left_at (fun _ => False) ds Q
theorem ok__is_left_at (t : Tx K mg) : FnG P w K mg base CX0 1 t.a__is_left_at t.d__is_left_at ["tile", "place"] (spD K 2 tf__is_left_at) := by
  have sc := sc__is_left_at
  exact fng_data (N := ["tile", "place", "_", "r", "s", "is_along_r", "gap"]) (T := T__is_left_at) t.F__is_left_at sc fun cdv A outer s H E F hK hF room =>
    (ds_cons (ds_asg (d_var (pv 0)) (dg_tup hK rfl (dgs_cons (dg_name (pg_name (i := 2) sc.nd rfl (by first | exact Or.inl rfl | exact Or.inr rfl))) (dgs_cons (dg_name (pg_name (i := 3) sc.nd rfl (by first | exact Or.inl rfl | exact Or.inr rfl))) (dgs_cons (dg_name (pg_name (i := 4) sc.nd rfl (by first | exact Or.inl rfl | exact Or.inr rfl))) dgs_nil)))))
    (ds_cons (ds_set (i := 5) sc.nd rfl (by first | exact Or.inl rfl | exact Or.inr rfl) (d_in hK (d_var (pv 1)) (d_tup (da_cons d_int (da_cons d_int da_nil)))))
    (ds_cons (ds_set (i := 6) sc.nd rfl (by first | exact Or.inl rfl | exact Or.inr rfl) (d_if (dt_tru (d_var (pv 5))) (d_mod (d_sub (d_var (pv 4)) (d_var (pv 3))) d_int) (d_mod (d_sub (d_var (pv 3)) (d_var (pv 4))) d_int)))
    (ds_one (ds_ret (d_if (dt_lt (d_var (pv 1)) d_int) (d_in hK (d_var (pv 6)) (d_tup (da_cons d_int (da_cons d_int da_nil)))) (d_in hK (d_var (pv 6)) (d_tup (da_cons d_int (da_cons d_int da_nil))))))))))
def T_does_fit : TDS := (dSeq (dDrop (dCallX 1 tf_need_tile (dCons (dVar 0) dNil)))
    (dSeq (dDrop (dCallX 1 tf_need_tile (dCons (dVar 1) dNil)))
    (dSeq (dForE (dCons (dCallX 1 tf_edges_of (dCons (dVar 0) dNil)) dNil) (dgTup 2 (dgCons (dgName 2) (dgCons (dgName 3) dgNil)))
    (dSeq (dAsg (dCallX 2 tf__place_of_edge (dCons (dVar 1) (dCons (dVar 3) dNil))) (dgName 4))
    (dIfS (dTest (dBin gNotN (dVar 4) (dC .non)))
    (dSeq (dAsg (dBin gEq (dBin gIx (dCallX 1 tf_marks_of (dCons (dVar 0) dNil)) (dVar 2)) (dBin gIx (dCallX 1 tf_marks_of (dCons (dVar 1) dNil)) (dVar 4))) (dgName 5))
    (dRet (dAnd (dVar 5) (dBin gNe (dCall 2 tf__is_left_at (dCons (dVar 0) (dCons (dVar 2) dNil))) (dCall 2 tf__is_left_at (dCons (dVar 1) (dCons (dVar 4) dNil)))))))
    dNext)))
    (dRet (dC (.bl false))))))
def tf_does_fit : TF := fun ξ ds Q => tfOf 6 T_does_fit ξ ds Q
theorem ok_does_fit (t : Tx K mg) : FnG P w K mg base (CX P w) 9 t.a_does_fit t.d_does_fit ["one", "other"] (spD K 2 tf_does_fit) := by
  have sc := sc_does_fit
  exact fng_dataX (N := ["one", "other", "place", "edge", "other_place", "do_marks_meet"]) (T := T_does_fit) t.F_does_fit sc fun cdv A outer s H E F hK wo' room => have tk' : Takes (cxOf (CX P w) P w K mg base ["one", "other", "place", "edge", "other_place", "do_marks_meet"] "does_fit" (defScope s_does_fit) t.a_does_fit cdv A outer s H E) (fun c od _ H' => E c od H') := takes_of rfl rfl rfl rfl
    (ds_cons (ds_expr (d_callX (ok_need_tile t) tk' wo' hK (room.mono (by decide)) rfl t.m_need_tile t.F_need_tile.kp (b_need_tile t) (da_cons (d_var (pv 0)) da_nil)))
    (ds_cons (ds_expr (d_callX (ok_need_tile t) tk' wo' hK (room.mono (by decide)) rfl t.m_need_tile t.F_need_tile.kp (b_need_tile t) (da_cons (d_var (pv 1)) da_nil)))
    (ds_cons (ds_forE hK (passes_of rfl) rfl rfl t.n_enumerate (da_cons (d_callX (ok_edges_of t) tk' wo' hK (room.mono (by decide)) rfl t.m_edges_of t.F_edges_of.kp (b_edges_of t) (da_cons (d_var (pv 0)) da_nil)) da_nil) (dg_tup hK rfl (dgs_cons (dg_name (pg_name (i := 2) sc.nd rfl (by first | exact Or.inl rfl | exact Or.inr rfl))) (dgs_cons (dg_name (pg_name (i := 3) sc.nd rfl (by first | exact Or.inl rfl | exact Or.inr rfl))) dgs_nil)))
    (ds_cons (ds_set (i := 4) sc.nd rfl (by first | exact Or.inl rfl | exact Or.inr rfl) (d_callX (ok__place_of_edge t) tk' wo' hK (room.mono (by decide)) rfl t.m__place_of_edge t.F__place_of_edge.kp (b__place_of_edge t) (da_cons (d_var (pv 1)) (da_cons (d_var (pv 3)) da_nil))))
    (ds_one (ds_if (dt_notN (d_var (pv 4)) d_non)
    (ds_cons (ds_set (i := 5) sc.nd rfl (by first | exact Or.inl rfl | exact Or.inr rfl) (d_eq hK room.r.units (d_ix hK (d_callX (ok_marks_of t) tk' wo' hK (room.mono (by decide)) rfl t.m_marks_of t.F_marks_of.kp (b_marks_of t) (da_cons (d_var (pv 0)) da_nil)) (d_var (pv 2)) (fun _ _ => rfl)) (d_ix hK (d_callX (ok_marks_of t) tk' wo' hK (room.mono (by decide)) rfl t.m_marks_of t.F_marks_of.kp (b_marks_of t) (da_cons (d_var (pv 1)) da_nil)) (d_var (pv 4)) (fun _ _ => rfl))))
    (ds_one (ds_ret (d_and (d_var (pv 5)) (d_one (d_ne hK room.r.units (d_call (ok__is_left_at t) hK (room.mono (by decide)) rfl t.m__is_left_at t.F__is_left_at.kp (b__is_left_at t) (da_cons (d_var (pv 0)) (da_cons (d_var (pv 2)) da_nil))) (d_call (ok__is_left_at t) hK (room.mono (by decide)) rfl t.m__is_left_at t.F__is_left_at.kp (b__is_left_at t) (da_cons (d_var (pv 1)) (da_cons (d_var (pv 4)) da_nil)))))))))
    ds_nil))))
    (ds_one (ds_ret d_bl)))))
def T__far_corner : TDS := (dSeq (dAsg (dBin gIx (dVar 0) (dC (.int 0))) (dgName 3))
    (dSeq (dForT (dSl (dVar 0) (dPart (dC (.int 1))) dNoPart) (dgName 4)
    (dIfS (dTest (dBin (gInD false) (dBin gMod (dBin gSub (dVar 4) (dVar 1)) (dC (.int 5))) (dVar 2)))
    (dAsg (dCall 3 tf_stepped (dCons (dVar 3) (dCons (dVar 4) (dCons (dC (.int 1)) dNil)))) (dgName 3))
    dNext))
    (dRet (dVar 3))))
def tf__far_corner : TF := fun _ ds Q => tfOf 5 T__far_corner (fun _ => False) ds Q
theorem ok__far_corner (t : Tx K mg) : FnG P w K mg base CX0 3 t.a__far_corner t.d__far_corner ["tile", "direction", "offsets"] (spD K 3 tf__far_corner) := by
  have sc := sc__far_corner
  exact fng_data (N := ["tile", "direction", "offsets", "row", "j"]) (T := T__far_corner) t.F__far_corner sc fun cdv A outer s H E F hK hF room =>
    (ds_cons (ds_set (i := 3) sc.nd rfl (by first | exact Or.inl rfl | exact Or.inr rfl) (d_ix hK (d_var (pv 0)) d_int (fun _ _ => rfl)))
    (ds_cons (ds_forT hK PassesOwn.never rfl (d_slice hK (d_var (pv 0)) (do_some d_int) do_none) (dg_name (pg_name (i := 4) sc.nd rfl (by first | exact Or.inl rfl | exact Or.inr rfl)))
    (ds_one (ds_if (dt_inD hK (u65 room.r) (d_mod (d_sub (d_var (pv 4)) (d_var (pv 1))) d_int) (d_var (pv 2)))
    (ds_one (ds_set (i := 3) sc.nd rfl (by first | exact Or.inl rfl | exact Or.inr rfl) (d_call (ok_stepped t) hK (room.mono (by decide)) rfl t.m_stepped t.F_stepped.kp (b_stepped t) (da_cons (d_var (pv 3)) (da_cons (d_var (pv 4)) (da_cons d_int da_nil))))))
    ds_nil)))
    (ds_one (ds_ret (d_var (pv 3))))))
def T__is_beside : TDS := (dSeq (dAsg (dCall 3 tf__far_corner (dCons (dVar 0) (dCons (dVar 2) (dCons (dTup (dCons (dC (.int 1)) (dCons (dC (.int 2)) dNil))) dNil)))) (dgName 3))
    (dSeq (dAsg (dCall 3 tf__far_corner (dCons (dVar 1) (dCons (dVar 2) (dCons (dTup (dCons (dC (.int 3)) (dCons (dC (.int 4)) dNil))) dNil)))) (dgName 4))
    (dSeq (dAsg (dLcZ (dCons (dVar 4) (dCons (dVar 3) dNil)) 6 7 dYes (dBin gSub (dVar 6) (dVar 7))) (dgName 5))
    (dSeq (dAsg (dBin gSub (dBin gIx (dVar 5) (dBin gMod (dBin gAddA (dVar 2) (dC (.int 1))) (dC (.int 5)))) (dBin gIx (dVar 5) (dBin gSub (dVar 2) (dC (.int 1))))) (dgName 8))
    (dSeq (dAsg (dBin gSub (dBin gIx (dVar 5) (dBin gMod (dBin gAddA (dVar 2) (dC (.int 2))) (dC (.int 5)))) (dBin gIx (dVar 5) (dBin gSub (dVar 2) (dC (.int 2))))) (dgName 9))
    (dRet (dBin gGe (dCall 2 tf_sign_of_parts (dCons (dVar 9) (dCons (dVar 8) dNil))) (dC (.int 0)))))))))
def tf__is_beside : TF := fun _ ds Q => tfOf 10 T__is_beside (fun _ => False) ds Q
theorem ok__is_beside (t : Tx K mg) : FnG P w K mg base CX0 4 t.a__is_beside t.d__is_beside ["one", "other", "direction"] (spD K 3 tf__is_beside) := by
  have sc := sc__is_beside
  exact fng_data (N := ["one", "other", "direction", "highest", "lowest", "row", "part", "against", "near", "far"]) (T := T__is_beside) t.F__is_beside sc fun cdv A outer s H E F hK hF room =>
    (ds_cons (ds_set (i := 3) sc.nd rfl (by first | exact Or.inl rfl | exact Or.inr rfl) (d_call (ok__far_corner t) hK (room.mono (by decide)) rfl t.m__far_corner t.F__far_corner.kp (b__far_corner t) (da_cons (d_var (pv 0)) (da_cons (d_var (pv 2)) (da_cons (d_tup (da_cons d_int (da_cons d_int da_nil))) da_nil)))))
    (ds_cons (ds_set (i := 4) sc.nd rfl (by first | exact Or.inl rfl | exact Or.inr rfl) (d_call (ok__far_corner t) hK (room.mono (by decide)) rfl t.m__far_corner t.F__far_corner.kp (b__far_corner t) (da_cons (d_var (pv 1)) (da_cons (d_var (pv 2)) (da_cons (d_tup (da_cons d_int (da_cons d_int da_nil))) da_nil)))))
    (ds_cons (ds_setLcZ hK rfl sc.nd (by decide) (by rfl) t.n_zip (da_cons (d_var (pv 4)) (da_cons (d_var (pv 3)) da_nil)) (blkOk_by (own := [("part", 6), ("against", 7)]) (N := ["one", "other", "direction", "highest", "lowest", "row", "part", "against", "near", "far"]) (sc := defScope s__is_beside) (by decide +kernel)) rfl (i := 5) rfl rfl (sw_true rfl rfl rfl (by decide +kernel)) (fun _ _ _ _ _ => pg_tup rfl (pgs_cons (pg_name (i := 6) sc.nd rfl (Or.inl rfl)) (pgs_cons (pg_name (i := 7) sc.nd rfl (Or.inl rfl)) pgs_nil))) (fun _ _ _ _ _ => dts_nil) (fun _ _ _ _ _ => (d_sub (d_var (pv 6)) (d_var (pv 7)))))
    (ds_cons (ds_set (i := 8) sc.nd rfl (by first | exact Or.inl rfl | exact Or.inr rfl) (d_sub (d_ix hK (d_var (pv 5)) (d_mod (d_addA hK (d_var (pv 2)) d_int) d_int) (fun _ _ => rfl)) (d_ix hK (d_var (pv 5)) (d_sub (d_var (pv 2)) d_int) (fun _ _ => rfl))))
    (ds_cons (ds_set (i := 9) sc.nd rfl (by first | exact Or.inl rfl | exact Or.inr rfl) (d_sub (d_ix hK (d_var (pv 5)) (d_mod (d_addA hK (d_var (pv 2)) d_int) d_int) (fun _ _ => rfl)) (d_ix hK (d_var (pv 5)) (d_sub (d_var (pv 2)) d_int) (fun _ _ => rfl))))
    (ds_one (ds_ret (d_ge (d_call (ok_sign_of_parts t) hK (room.mono (by decide)) rfl t.m_sign_of_parts t.F_sign_of_parts.kp (b_sign_of_parts t) (da_cons (d_var (pv 9)) (da_cons (d_var (pv 8)) da_nil))) d_int))))))))
def T_do_overlap : TDS := (dSeq (dDrop (dCallX 1 tf_need_tile (dCons (dVar 0) dNil)))
    (dSeq (dDrop (dCallX 1 tf_need_tile (dCons (dVar 1) dNil)))
    (dSeq (dIfS (dTest (dBin gEq (dVar 0) (dVar 1)))
    (dRet (dC (.bl true)))
    dNext)
    (dSeq (dForT (dBin gAddA (dSl (dVar 0) (dPart (dC (.int 1))) dNoPart) (dSl (dVar 1) (dPart (dC (.int 1))) dNoPart)) (dgName 2)
    (dIfS (dtOr (dTest (dCall 3 tf__is_beside (dCons (dVar 0) (dCons (dVar 1) (dCons (dVar 2) dNil))))) (dTest (dCall 3 tf__is_beside (dCons (dVar 1) (dCons (dVar 0) (dCons (dVar 2) dNil))))))
    (dRet (dC (.bl false)))
    dNext))
    (dRet (dC (.bl true)))))))
def tf_do_overlap : TF := fun ξ ds Q => tfOf 3 T_do_overlap ξ ds Q
theorem ok_do_overlap (t : Tx K mg) : FnG P w K mg base (CX P w) 7 t.a_do_overlap t.d_do_overlap ["one", "other"] (spD K 2 tf_do_overlap) := by
  have sc := sc_do_overlap
  exact fng_dataX (N := ["one", "other", "direction"]) (T := T_do_overlap) t.F_do_overlap sc fun cdv A outer s H E F hK wo' room => have tk' : Takes (cxOf (CX P w) P w K mg base ["one", "other", "direction"] "do_overlap" (defScope s_do_overlap) t.a_do_overlap cdv A outer s H E) (fun c od _ H' => E c od H') := takes_of rfl rfl rfl rfl
    (ds_cons (ds_expr (d_callX (ok_need_tile t) tk' wo' hK (room.mono (by decide)) rfl t.m_need_tile t.F_need_tile.kp (b_need_tile t) (da_cons (d_var (pv 0)) da_nil)))
    (ds_cons (ds_expr (d_callX (ok_need_tile t) tk' wo' hK (room.mono (by decide)) rfl t.m_need_tile t.F_need_tile.kp (b_need_tile t) (da_cons (d_var (pv 1)) da_nil)))
    (ds_cons (ds_if (dt_eq hK room.r.units (d_var (pv 0)) (d_var (pv 1)))
    (ds_one (ds_ret d_bl))
    ds_nil)
    (ds_cons (ds_forT hK (passes_of rfl) rfl (d_addA hK (d_slice hK (d_var (pv 0)) (do_some d_int) do_none) (d_slice hK (d_var (pv 1)) (do_some d_int) do_none)) (dg_name (pg_name (i := 2) sc.nd rfl (by first | exact Or.inl rfl | exact Or.inr rfl)))
    (ds_one (ds_if (PW.pt (dw_or (dt_val (d_call (ok__is_beside t) hK (room.mono (by decide)) rfl t.m__is_beside t.F__is_beside.kp (b__is_beside t) (da_cons (d_var (pv 0)) (da_cons (d_var (pv 1)) (da_cons (d_var (pv 2)) da_nil))))) (dw_or1 (dt_val (d_call (ok__is_beside t) hK (room.mono (by decide)) rfl t.m__is_beside t.F__is_beside.kp (b__is_beside t) (da_cons (d_var (pv 1)) (da_cons (d_var (pv 0)) (da_cons (d_var (pv 2)) da_nil))))))))
    (ds_one (ds_ret d_bl))
    ds_nil)))
    (ds_one (ds_ret d_bl))))))
theorem ok__law_deck (t : Tx K mg) : FnG P w K mg base CX0 1 t.a__law_deck t.d__law_deck ["_law_script"] (spDeck K) := by
  have sc : FnScope ["_law_script", "_law_mixed", "_law_cell"] ["_law_script"] (defScope s__law_deck) := sc__law_deck
  refine fng_of (N := ["_law_script", "_law_mixed", "_law_cell"]) t.F__law_deck sc ?_ ?_
  · rintro vs H Q E ⟨a, ns, rfl, _⟩
    rfl
  rintro cdv A outer s H vs Q E room ⟨a, ns, rfl, hS, hlen, k⟩
  refine ⟨_, PSs.nox (pss_cons (ps_set (i := 1) sc.nd rfl (.inl rfl) (pe_op op_add pe_int pe_int))
    (pss_cons (ps_for PassesOwn.never rfl (pi_list (pe_slice sl_list (pv 0) po_none (po_some pe_int))) (pg_name (i := 2) sc.nd rfl (.inl rfl))
      (pss_one (ps_set (i := 1) sc.nd rfl (.inl rfl) (pe_op op_mod (pe_callTy call_int1 (by rfl) t.n_int (by decide +kernel) (pa_cons (pe_op op_add (pe_op op_add (pe_op op_mul (pv 1) pe_int) (pe_op op_mod (pe_callTy call_int1 (by rfl) t.n_int (by decide +kernel) (pa_cons (pv 2) pa_nil)) pe_int)) pe_int) pa_nil)) pe_int))))
    (pss_one (ps_ret (pe_disp (pps_cons pe_str (pe_revL (pe_callTy call_list_of (by rfl) t.n_list (by decide +kernel) (pa_cons (pe_slice sl_list (pv 0) po_none (po_some pe_int)) pa_nil)))
      (pps_cons pe_str (pv 1) (pps_cons pe_str pe_int pps_nil))) (by rfl) (by rfl) (fun z => by cases z) (by decide)))))), ?_⟩
  obtain ⟨ms, hms, hml⟩ := cut_ints ns none (some 63)
  refine ⟨_, _, rfl, rfl, _, rfl, _, rfl, a, _, rfl, hS, fun p hp => ⟨p, rfl, ⟨_, SqL.of upd_same⟩, ?_⟩⟩
  rw [hms]
  have S1 : Same H (upd H p (.lst (ms.map V.int))) := (Same.refl H).lay hp
  refine for_list (K := K) (a := p) (xs := ms.map V.int) (fun i σ' H' => ∃ (m : Int) (v : Option V), σ' = [some (.ref a), some (.int m), v] ∧ H' = upd H p (.lst (ms.map V.int))) ⟨_, _, rfl, rfl⟩ ?_ ?_ ?_
  · rintro i σ' H' _ ⟨m, v, rfl, rfl⟩
    exact SqL.of upd_same
  · rintro i x σ' H' hx ⟨m, v, rfl, rfl⟩
    obtain ⟨u, rfl⟩ : ∃ u, x = V.int u := by
      rw [List.getElem?_map, Option.map_eq_some_iff] at hx
      obtain ⟨u, _, e⟩ := hx
      exact ⟨u, e.symm⟩
    refine ⟨_, rfl, _, _, rfl, rfl, .inr ⟨by decide, by decide⟩, _, rfl, .inl ⟨_, rfl, _, _, rfl, rfl, (by show (0 : Int) < _; decide), _, _, rfl, rfl, _, _, rfl, rfl, .inl ⟨_, rfl, _, _, rfl, rfl, (by show (0 : Int) < _; decide), ?_⟩⟩⟩
    exact ⟨_, _, rfl, rfl⟩
  · rintro σ' H' ⟨m, v, rfl, rfl⟩
    intro p2 hp2
    have S2 := S1.lay (o := .dK []) hp2
    refine ⟨_, rfl, _, rfl, a, _, rfl, S2.seq hS, fun p3 hp3 => ⟨p3, _, rfl, .inl (SqL.of upd_same), fun p4 hp4 => ⟨p4, _, rfl, SqL.of upd_same, fun l hl => ?_⟩⟩⟩
    have S3 := S2.lay (o := .lst (cutV (ns.map V.int) none (some 63))) hp3
    have S4 := S3.lay (o := .lst (cutV (ns.map V.int) none (some 63))) hp4
    have S5 := S4.lay (o := .lst (cutV (ns.map V.int) none (some 63)).reverse) hl
    have D2 : upd (upd H p (.lst (ms.map V.int))) p2 (.dK []) p2 = some (.dK []) := upd_same
    have D5 := keepU (o := .lst (cutV (ns.map V.int) none (some 63)).reverse) (keepU (o := .lst (cutV (ns.map V.int) none (some 63))) (keepU (o := .lst (cutV (ns.map V.int) none (some 63))) D2 hp3) hp4) hl
    refine ⟨_, rfl, D5, [(.inr ("cells" : Str), .ref l), (.inr ("mixed" : Str), .int m), (.inr ("draws" : Str), .int 0)], rfl, (by show 3 ≤ 15; decide), ?_⟩
    rw [merge_deck]
    have nl : l ≠ p2 := (ne_of_none (keepU (o := .lst (cutV (ns.map V.int) none (some 63))) (keepU (o := .lst (cutV (ns.map V.int) none (some 63))) D2 hp3) hp4) hl).symm
    refine k _ p2 l m ms.reverse (fun q o e => ?_) (S1.free hp2) (S4.free hl) upd_same ?_ (by rw [List.length_reverse]; omega)
    · have nq : q ≠ p2 := ne_of_none e (S1.free hp2)
      rw [upd_ne nq]
      exact S5 q o e
    · rw [upd_ne nl, upd_same, hms, List.map_reverse]
theorem ok__law_draw (t : Tx K mg) : FnG P w K mg base CX0 1 t.a__law_draw t.d__law_draw ["_law_deck_here", "_law_many"] (spD K 2 tf_draw) := by
  have sc : FnScope ["_law_deck_here", "_law_many", "_law_number", "_law_cell"] ["_law_deck_here", "_law_many"] (defScope s__law_draw) := sc__law_draw
  refine fng_of (N := ["_law_deck_here", "_law_many", "_law_number", "_law_cell"]) t.F__law_draw sc ?_ ?_
  · rintro vs H Q E ⟨Z, B, ds, Qd, Ed, b, r, hl, _⟩
    rw [← r.length, hl]; rfl
  rintro cdv A outer s H vs Q E room ⟨Z, B, ds, Qd, Ed, b, r, hl, hT, hq, _⟩
  have hu := hu_of room.r
  obtain ⟨a, l, n, hz, rfl, ⟨n0, n1⟩, hT⟩ := draw_reps r hT
  obtain ⟨xs, m, k, h1, h2, h3⟩ := b.deck.1 a l hz
  refine ⟨_, PSs.nox (pss_cons (ps_dput hu (pv 0) pe_str (pe_op op_add (pe_dget hu (pv 0) pe_str (fun _ _ => rfl)) pe_int) rfl)
    (pss_cons (ps_set (i := 2) sc.nd rfl (.inl rfl) (pe_op op_add (pe_dget hu (pv 0) pe_str (fun _ _ => rfl)) (pe_op op_mul pe_int (pe_dget hu (pv 0) pe_str (fun _ _ => rfl)))))
    (pss_cons (ps_if (pt_cmpR (op_neD room.r.units) (pe_dget hu (pv 0) pe_str (fun _ _ => rfl)) (pe_lst pa_nil) (nomark _))
      (pss_cons (ps_set (i := 3) sc.nd rfl (.inl rfl) (pe_bm0 PySem.F.plainAttrs_list PySem.F.slot_list_pop PySem.F.type_list_pop mt_pop (pe_dget hu (pv 0) pe_str (fun _ _ => rfl))))
      (pss_cons (ps_if (pt_cmpR op_ge (pv 3) (pe_op op_pow pe_int pe_int) (nomark _))
        (pss_cons (ps_expr (pe_bm PySem.F.plainAttrs_list PySem.F.slot_list_append PySem.F.type_list_append mt_append (pe_dget hu (pv 0) pe_str (fun _ _ => rfl))
          (pa_cons (pe_op op_fdiv (pv 3) (pe_callB (call_max2 rfl) (by rfl) t.n_max (by decide +kernel) (pa_cons pe_int (pa_cons (pv 1) pa_nil)))) pa_nil)))
        (pss_one (ps_ret (pe_op op_mod (pe_callTy call_int1 (by rfl) t.n_int (by decide +kernel) (pa_cons (pv 3) pa_nil)) (pv 1)))))
        pss_nil)
      (pss_one (ps_set (i := 2) sc.nd rfl (.inl rfl) (pe_op op_add (pv 2) (pe_op op_mod (pe_callTy call_int1 (by rfl) t.n_int (by decide +kernel) (pa_cons (pv 3) pa_nil)) pe_int))))))
      pss_nil)
    (pss_cons (ps_set (i := 2) sc.nd rfl (.inl rfl) (pe_op op_mod (pe_callTy call_int1 (by rfl) t.n_int (by decide +kernel) (pa_cons (pe_op op_add (pe_op op_mul (pv 2) pe_int) pe_int) pa_nil)) pe_int))
    (pss_cons (ps_set (i := 2) sc.nd rfl (.inl rfl) (pe_op op_mod (pe_callTy call_int1 (by rfl) t.n_int (by decide +kernel) (pa_cons (pe_op op_add (pe_op op_add (pe_op op_mul (pv 2) (pv 2)) (pe_op op_mul pe_int (pe_dget hu (pv 0) pe_str (fun _ _ => rfl)))) pe_int) pa_nil)) pe_int))
    (pss_cons (ps_set (i := 2) sc.nd rfl (.inl rfl) (pe_op op_mod (pe_callTy call_int1 (by rfl) t.n_int (by decide +kernel) (pa_cons (pe_op op_mul (pv 2) pe_int) pa_nil)) pe_int))
    (pss_one (ps_ret (pe_op op_mod (pe_callTy call_int1 (by rfl) t.n_int (by decide +kernel) (pa_cons (pe_op op_fdiv (pv 2) pe_int) pa_nil)) (pv 1)))))))))), ?_⟩
  have hne : a ≠ l := ne_of h1 h2 (by intro z; cases z)
  have K0 : Dk a l H H m k xs := ⟨fun _ _ _ _ e => e, h1, h2, hne, fun _ _ t => t⟩
  have zq : ∀ {H' : Hp} {m k : Int} {ys : List Int} {r : Int}, Dk a l H H' m k ys → ys.length ≤ 63 → 0 ≤ r → r < n → Q (.int r) H' := fun d hy r0 r1 => hq _ _ (.int _) (d.ext hy hz) rfl (hT _ r0 r1)
  -- the number of draws
  refine ⟨_, rfl, a, _, rfl, dg_d h1, _, _, rfl, rfl, _, rfl, a, _, rfl, dp_d h1, ?_⟩
  have K1 := K0.put (j := k + 1)
  -- the figure
  refine ⟨_, rfl, a, _, rfl, dg_m K1.dict, _, rfl, a, _, rfl, dg_d K1.dict, _, _, rfl, rfl, .inl ⟨by decide, by decide⟩, _, _, rfl, rfl, ?_⟩
  have K2 : ∀ p, (upd H a (.dK (deckKvs l m (k + 1)))) p = none → Dk a l H (upd (upd H a (.dK (deckKvs l m (k + 1)))) p (.lst [])) m (k + 1) xs := fun p hp => K1.new hp
  refine ⟨_, rfl, a, _, rfl, dg_l K1.dict, Nat.zero_le _, fun p hp => ?_⟩
  have K3 := K2 p hp
  refine ⟨.list (xs.map PyData.int), .list [], .lst (SqL.of K3.list) (dp_ints xs), .lst (SqL.of upd_same) .nil, shaped_ints xs, rfl, _, rfl, ?_⟩
  rw [eqv_ints_nil]
  generalize hb : (!xs.isEmpty) = bb
  have big : ∀ x : Int, -(2 ^ 64) < x % 2147483647 ∧ x % 2147483647 < 2 ^ 64 := fun x => by omega
  obtain e | ⟨xs', cell, e⟩ := last_of xs
  · subst e
    have hb : false = bb := hb
    subst hb
    refine iteF ?_
    have K9 := K3
    have hy : ([] : List Int).length ≤ 63 := h3
    refine ⟨_, rfl, _, _, rfl, rfl, .inr ⟨by decide, by decide⟩, _, _, rfl, rfl, .inl ⟨_, rfl, _, _, rfl, rfl, (by show (0 : Int) < _; decide), ?_⟩⟩
    refine ⟨_, rfl, _, rfl, _, _, rfl, rfl, .inl (big _), _, rfl, a, _, rfl, dg_d K9.dict, _, _, rfl, rfl, .inl ⟨by decide, by decide⟩, _, _, rfl, rfl, _, _, rfl, rfl, .inl ⟨_, rfl, _, _, rfl, rfl, (by show (0 : Int) < _; decide), ?_⟩⟩
    refine ⟨_, rfl, _, _, rfl, rfl, .inr ⟨by decide, by decide⟩, .inl ⟨_, rfl, _, _, rfl, rfl, (by show (0 : Int) < _; decide), ?_⟩⟩
    refine ⟨_, rfl, _, _, rfl, rfl, ⟨by decide, by decide⟩, .inl ⟨_, rfl, _, rfl, _, _, rfl, rfl, n0, ?_⟩⟩
    exact zq K9 hy (Int.emod_nonneg _ (by omega)) (Int.emod_lt_of_pos _ n0)
  · subst e
    have hy : xs'.length ≤ 62 := by simpa using h3
    have hb : true = bb := by rw [← hb]; simp
    subst hb
    refine iteT ?_
    refine ⟨_, rfl, a, _, rfl, dg_l K3.dict, .inl ⟨rfl, _, SqL.of K3.list⟩, l, _, .int cell, rfl, rfl, K3.list, by simp, ?_⟩
    rw [show ((xs' ++ [cell]).map V.int).dropLast = xs'.map V.int from by simp]
    have K9 := K3.set (ys := xs')
    refine ⟨_, rfl, _, _, rfl, rfl, ⟨by decide, by decide, by decide⟩, _, _, rfl, rfl, _, rfl, ?_⟩
    refine ite2 (fun _ => ?_) (fun _ => ?_)
    · refine ⟨_, rfl, a, _, rfl, dg_l K9.dict, .inl ⟨rfl, _, SqL.of K9.list⟩, _, rfl, _, rfl, _, _, rfl, _, _, rfl, rfl, ⟨by split <;> omega, by split <;> omega⟩, l, _, _, rfl, rfl, K9.list, by rw [List.length_map, sizeLine_eq]; omega, ?_⟩
      refine ⟨_, rfl, .inl ⟨_, rfl, _, rfl, _, _, rfl, rfl, n0, ?_⟩⟩
      rw [show ∀ q : Int, xs'.map V.int ++ [V.int q] = (xs' ++ [q]).map V.int from fun q => by simp]
      exact zq (K9.set (ys := xs' ++ [_])) (by simp; omega) (Int.emod_nonneg _ (by omega)) (Int.emod_lt_of_pos _ n0)
    · refine ⟨_, rfl, _, rfl, .inl ⟨_, rfl, _, _, rfl, rfl, (by show (0 : Int) < _; decide), _, _, rfl, rfl, ?_⟩⟩
      have hy : xs'.length ≤ 63 := by omega
      refine ⟨_, rfl, _, _, rfl, rfl, .inr ⟨by decide, by decide⟩, _, _, rfl, rfl, .inl ⟨_, rfl, _, _, rfl, rfl, (by show (0 : Int) < _; decide), ?_⟩⟩
      refine ⟨_, rfl, _, rfl, _, _, rfl, rfl, .inl (big _), _, rfl, a, _, rfl, dg_d K9.dict, _, _, rfl, rfl, .inl ⟨by decide, by decide⟩, _, _, rfl, rfl, _, _, rfl, rfl, .inl ⟨_, rfl, _, _, rfl, rfl, (by show (0 : Int) < _; decide), ?_⟩⟩
      refine ⟨_, rfl, _, _, rfl, rfl, .inr ⟨by decide, by decide⟩, .inl ⟨_, rfl, _, _, rfl, rfl, (by show (0 : Int) < _; decide), ?_⟩⟩
      refine ⟨_, rfl, _, _, rfl, rfl, ⟨by decide, by decide⟩, .inl ⟨_, rfl, _, rfl, _, _, rfl, rfl, n0, ?_⟩⟩
      exact zq K9 hy (Int.emod_nonneg _ (by omega)) (Int.emod_lt_of_pos _ n0)
def T__law_pick : TDS := (dRet (dBin gIx (dVar 1) (dCall 2 tf_draw (dCons (dVar 0) (dCons (dCB gLen (dCons (dVar 1) dNil)) dNil)))))
def tf__law_pick : TF := fun _ ds Q => tfOf 2 T__law_pick (fun _ => False) ds Q
theorem ok__law_pick (t : Tx K mg) : FnG P w K mg base CX0 2 t.a__law_pick t.d__law_pick ["_law_deck_here", "_law_some"] (spD K 2 tf__law_pick) := by
  have sc := sc__law_pick
  exact fng_data (N := ["_law_deck_here", "_law_some"]) (T := T__law_pick) t.F__law_pick sc fun cdv A outer s H E F hK hF room =>
    (ds_one (ds_ret (d_ix hK (d_var (pv 1)) (d_call (ok__law_draw t) hK (room.mono (by decide)) rfl t.m__law_draw t.F__law_draw.kp (b__law_draw t) (da_cons (d_var (pv 0)) (da_cons (d_callB (hK ▸ cd_len) call_len_seq rfl t.n_len (by decide +kernel) (da_cons (d_var (pv 1)) da_nil)) da_nil))) (fun _ _ => rfl))))
def T__law_sign : TDS := (dSeq (dAsg (dBin gAddA (dBin gMulA (dC (.int 2)) (dVar 0)) (dVar 1)) (dgName 2))
    (dSeq (dIfS (dTest (dBin gGe (dBin gMulA (dVar 2) (dVar 1)) (dC (.int 0))))
    (dRet (dBin gSub (dCB gInt (dCons (dBin gGt (dBin gAddA (dVar 2) (dVar 1)) (dC (.int 0))) dNil)) (dCB gInt (dCons (dBin gLt (dBin gAddA (dVar 2) (dVar 1)) (dC (.int 0))) dNil))))
    dNext)
    (dSeq (dAsg (dIf (dTest (dBin gGt (dBin gMulA (dVar 2) (dVar 2)) (dBin gMulA (dBin gMulA (dC (.int 5)) (dVar 1)) (dVar 1)))) (dVar 2) (dVar 1)) (dgName 3))
    (dRet (dIf (dTest (dBin gGt (dVar 3) (dC (.int 0)))) (dC (.int 1)) (dUn gNeg (dC (.int 1))))))))
def tf__law_sign : TF := fun _ ds Q => tfOf 4 T__law_sign (fun _ => False) ds Q
theorem ok__law_sign (t : Tx K mg) : FnG P w K mg base CX0 1 t.a__law_sign t.d__law_sign ["_law_a", "_law_b"] (spD K 2 tf__law_sign) := by
  have sc := sc__law_sign
  exact fng_data (N := ["_law_a", "_law_b", "_law_one", "_law_most"]) (T := T__law_sign) t.F__law_sign sc fun cdv A outer s H E F hK hF room =>
    (ds_cons (ds_set (i := 2) sc.nd rfl (by first | exact Or.inl rfl | exact Or.inr rfl) (d_addA hK (d_mulA d_int (d_var (pv 0))) (d_var (pv 1))))
    (ds_cons (ds_if (dt_ge (d_mulA (d_var (pv 2)) (d_var (pv 1))) d_int)
    (ds_one (ds_ret (d_sub (d_callTy cd_int call_int1 rfl t.n_int (by decide +kernel) (da_cons (d_gt (d_addA hK (d_var (pv 2)) (d_var (pv 1))) d_int) da_nil)) (d_callTy cd_int call_int1 rfl t.n_int (by decide +kernel) (da_cons (d_lt (d_addA hK (d_var (pv 2)) (d_var (pv 1))) d_int) da_nil)))))
    ds_nil)
    (ds_cons (ds_set (i := 3) sc.nd rfl (by first | exact Or.inl rfl | exact Or.inr rfl) (d_if (dt_gt (d_mulA (d_var (pv 2)) (d_var (pv 2))) (d_mulA (d_mulA d_int (d_var (pv 1))) (d_var (pv 1)))) (d_var (pv 2)) (d_var (pv 1))))
    (ds_one (ds_ret (d_if (dt_gt (d_var (pv 3)) d_int) d_int (d_neg d_int)))))))
def T__law_is_integer : TDS := (dRet (dAnd (dUn (gIs .int) (dVar 0)) (dNot (dUn (gIs .bool) (dVar 0)))))
def tf__law_is_integer : TF := fun _ ds Q => tfOf 1 T__law_is_integer (fun _ => False) ds Q
theorem ok__law_is_integer (t : Tx K mg) : FnG P w K mg base CX0 1 t.a__law_is_integer t.d__law_is_integer ["_law_thing"] (spD K 1 tf__law_is_integer) := by
  have sc := sc__law_is_integer
  exact fng_data (N := ["_law_thing"]) (T := T__law_is_integer) t.F__law_is_integer sc fun cdv A outer s H E F hK hF room =>
    (ds_one (ds_ret (d_and (d_isi (T := .int) hK rfl t.n_isinstance rfl t.n_int (by decide +kernel) (d_var (pv 0))) (d_one (d_not (d_isi (T := .bool) hK rfl t.n_isinstance rfl t.n_bool (by decide +kernel) (d_var (pv 0))))))))
def T__law_up : TDS := (dRet (dBin gAddA (dBin gAddA (dSl (dVar 0) dNoPart (dPart (dVar 1))) (dTup (dCons (dBin gAddA (dBin gIx (dVar 0) (dVar 1)) (dVar 2)) dNil))) (dSl (dVar 0) (dPart (dBin gAddA (dVar 1) (dC (.int 1)))) dNoPart)))
def tf__law_up : TF := fun _ ds Q => tfOf 3 T__law_up (fun _ => False) ds Q
theorem ok__law_up (t : Tx K mg) : FnG P w K mg base CX0 1 t.a__law_up t.d__law_up ["_law_k", "_law_j", "_law_much"] (spD K 3 tf__law_up) := by
  have sc := sc__law_up
  exact fng_data (N := ["_law_k", "_law_j", "_law_much"]) (T := T__law_up) t.F__law_up sc fun cdv A outer s H E F hK hF room =>
    (ds_one (ds_ret (d_addA hK (d_addA hK (d_slice hK (d_var (pv 0)) do_none (do_some (d_var (pv 1)))) (d_tup (da_cons (d_addA hK (d_ix hK (d_var (pv 0)) (d_var (pv 1)) (fun _ _ => rfl)) (d_var (pv 2))) da_nil))) (d_slice hK (d_var (pv 0)) (do_some (d_addA hK (d_var (pv 1)) d_int)) do_none))))
def T__law_corners : TDS := (dSeq (dAsg (dVar 0) (dgTup 3 (dgCons (dgName 1) (dgCons (dgName 2) (dgCons (dgName 3) dgNil)))))
    (dRet (dLst (dCons (dVar 1) (dCons (dCallD 3 [.int (1)] tf__law_up (dCons (dVar 1) (dCons (dVar 2) dNil))) (dCons (dCallD 3 [.int (1)] tf__law_up (dCons (dVar 1) (dCons (dVar 3) dNil))) (dCons (dCallD 3 [.int (1)] tf__law_up (dCons (dCallD 3 [.int (1)] tf__law_up (dCons (dVar 1) (dCons (dVar 2) dNil))) (dCons (dVar 3) dNil))) dNil)))))))
def tf__law_corners : TF := fun _ ds Q => tfOf 4 T__law_corners (fun _ => False) ds Q
theorem ok__law_corners (t : Tx K mg) : FnG P w K mg base CX0 2 t.a__law_corners t.d__law_corners ["_law_tile"] (spD K 1 tf__law_corners) := by
  have sc := sc__law_corners
  exact fng_data (N := ["_law_tile", "_law_k", "_law_r", "_law_s"]) (T := T__law_corners) t.F__law_corners sc fun cdv A outer s H E F hK hF room =>
    (ds_cons (ds_asg (d_var (pv 0)) (dg_tup hK rfl (dgs_cons (dg_name (pg_name (i := 1) sc.nd rfl (by first | exact Or.inl rfl | exact Or.inr rfl))) (dgs_cons (dg_name (pg_name (i := 2) sc.nd rfl (by first | exact Or.inl rfl | exact Or.inr rfl))) (dgs_cons (dg_name (pg_name (i := 3) sc.nd rfl (by first | exact Or.inl rfl | exact Or.inr rfl))) dgs_nil)))))
    (ds_one (ds_ret (d_lst (da_cons (d_var (pv 1)) (da_cons (d_callD (ok__law_up t) hK (room.mono (by decide)) rfl t.m__law_up t.F__law_up.kp (bd__law_up_2 t) (fun _ _ _ => ⟨_, _, rfl, rfl, rfl⟩) (da_cons (d_var (pv 1)) (da_cons (d_var (pv 2)) da_nil))) (da_cons (d_callD (ok__law_up t) hK (room.mono (by decide)) rfl t.m__law_up t.F__law_up.kp (bd__law_up_2 t) (fun _ _ _ => ⟨_, _, rfl, rfl, rfl⟩) (da_cons (d_var (pv 1)) (da_cons (d_var (pv 3)) da_nil))) (da_cons (d_callD (ok__law_up t) hK (room.mono (by decide)) rfl t.m__law_up t.F__law_up.kp (bd__law_up_2 t) (fun _ _ _ => ⟨_, _, rfl, rfl, rfl⟩) (da_cons (d_callD (ok__law_up t) hK (room.mono (by decide)) rfl t.m__law_up t.F__law_up.kp (bd__law_up_2 t) (fun _ _ _ => ⟨_, _, rfl, rfl, rfl⟩) (da_cons (d_var (pv 1)) (da_cons (d_var (pv 2)) da_nil))) (da_cons (d_var (pv 3)) da_nil))) da_nil))))))))
def T__law_marked : TDS := (dSeq (dAsg (dVar 0) (dgTup 3 (dgCons (dgName 1) (dgCons (dgName 2) (dgCons (dgName 3) dgNil)))))
    (dSeq (dAsg (dIf (dTest (dBin gEq (dBin (gIn false) (dBin gSub (dVar 3) (dVar 2)) (dTup (dCons (dC (.int 1)) (dCons (dC (.int 4)) dNil)))) (dBin gEq (dCB gSum (dCons (dVar 1) dNil)) (dC (.int 1))))) (dC (.str "up")) (dC (.str "down"))) (dgName 4))
    (dSeq (dOwn (lLst dNil) 5)
    (dSeq (dForT (dTup (dCons (dTup (dCons (dVar 1) (dCons (dVar 2) (dCons (dVar 3) dNil)))) (dCons (dTup (dCons (dVar 1) (dCons (dVar 3) (dCons (dVar 2) dNil)))) (dCons (dTup (dCons (dCallD 3 [.int (1)] tf__law_up (dCons (dVar 1) (dCons (dVar 3) dNil))) (dCons (dVar 2) (dCons (dVar 3) dNil)))) (dCons (dTup (dCons (dCallD 3 [.int (1)] tf__law_up (dCons (dVar 1) (dCons (dVar 2) dNil))) (dCons (dVar 3) (dCons (dVar 2) dNil)))) dNil))))) (dgTup 3 (dgCons (dgName 6) (dgCons (dgName 7) (dgCons (dgName 8) dgNil))))
    (dSeq (dAsg (dBin (gIn false) (dBin gMod (dCB gInt (dCons (dBin gAddA (dBin gSub (dVar 8) (dVar 7)) (dC (.int 5))) dNil)) (dC (.int 5))) (dTup (dCons (dC (.int 1)) (dCons (dC (.int 2)) dNil)))) (dgName 9))
    (dApp 5 (dTup (dCons (dTup (dCons (dVar 6) (dCons (dVar 7) dNil))) (dCons (dIf (dTest (dBin gEq (dCB gSum (dCons (dVar 6) dNil)) (dC (.int 2)))) (dVar 4) (dC (.str "outer"))) (dCons (dBin gEq (dVar 9) (dBin gEq (dBin gIx (dVar 6) (dVar 8)) (dBin gIx (dVar 1) (dVar 8)))) dNil)))))))
    (dFreeze 5 (dRet (dVar 5)))))))
def tf__law_marked : TF := fun _ ds Q => tfOf 10 T__law_marked (fun _ => False) ds Q
theorem ok__law_marked (t : Tx K mg) : FnG P w K mg base CX0 2 t.a__law_marked t.d__law_marked ["_law_tile"] (spD K 1 tf__law_marked) := by
  have sc := sc__law_marked
  exact fng_data (N := ["_law_tile", "_law_k", "_law_r", "_law_s", "_law_word", "_law_found", "_law_x", "_law_j", "_law_away", "_law_is_near"]) (T := T__law_marked) t.F__law_marked sc fun cdv A outer s H E F hK hF room =>
    (ds_cons (ds_asg (d_var (pv 0)) (dg_tup hK rfl (dgs_cons (dg_name (pg_name (i := 1) sc.nd rfl (by first | exact Or.inl rfl | exact Or.inr rfl))) (dgs_cons (dg_name (pg_name (i := 2) sc.nd rfl (by first | exact Or.inl rfl | exact Or.inr rfl))) (dgs_cons (dg_name (pg_name (i := 3) sc.nd rfl (by first | exact Or.inl rfl | exact Or.inr rfl))) dgs_nil)))))
    (ds_cons (ds_set (i := 4) sc.nd rfl (by first | exact Or.inl rfl | exact Or.inr rfl) (d_if (dt_eq hK room.r.units (d_in hK (d_sub (d_var (pv 3)) (d_var (pv 2))) (d_tup (da_cons d_int (da_cons d_int da_nil)))) (d_eq hK room.r.units (d_callB (hK ▸ cd_sum) (cr_sumA rfl) rfl t.n_sum (by decide +kernel) (da_cons (d_var (pv 1)) da_nil)) d_int)) d_str d_str))
    (ds_cons (ds_own (i := 5) sc.nd rfl (by first | exact Or.inl rfl | exact Or.inr rfl) (l_lst da_nil))
    (ds_cons (ds_forT hK PassesOwn.never rfl (d_tup (da_cons (d_tup (da_cons (d_var (pv 1)) (da_cons (d_var (pv 2)) (da_cons (d_var (pv 3)) da_nil)))) (da_cons (d_tup (da_cons (d_var (pv 1)) (da_cons (d_var (pv 3)) (da_cons (d_var (pv 2)) da_nil)))) (da_cons (d_tup (da_cons (d_callD (ok__law_up t) hK (room.mono (by decide)) rfl t.m__law_up t.F__law_up.kp (bd__law_up_2 t) (fun _ _ _ => ⟨_, _, rfl, rfl, rfl⟩) (da_cons (d_var (pv 1)) (da_cons (d_var (pv 3)) da_nil))) (da_cons (d_var (pv 2)) (da_cons (d_var (pv 3)) da_nil)))) (da_cons (d_tup (da_cons (d_callD (ok__law_up t) hK (room.mono (by decide)) rfl t.m__law_up t.F__law_up.kp (bd__law_up_2 t) (fun _ _ _ => ⟨_, _, rfl, rfl, rfl⟩) (da_cons (d_var (pv 1)) (da_cons (d_var (pv 2)) da_nil))) (da_cons (d_var (pv 3)) (da_cons (d_var (pv 2)) da_nil)))) da_nil))))) (dg_tup hK rfl (dgs_cons (dg_name (pg_name (i := 6) sc.nd rfl (by first | exact Or.inl rfl | exact Or.inr rfl))) (dgs_cons (dg_name (pg_name (i := 7) sc.nd rfl (by first | exact Or.inl rfl | exact Or.inr rfl))) (dgs_cons (dg_name (pg_name (i := 8) sc.nd rfl (by first | exact Or.inl rfl | exact Or.inr rfl))) dgs_nil))))
    (ds_cons (ds_set (i := 9) sc.nd rfl (by first | exact Or.inl rfl | exact Or.inr rfl) (d_in hK (d_mod (d_callTy cd_int call_int1 rfl t.n_int (by decide +kernel) (da_cons (d_addA hK (d_sub (d_var (pv 8)) (d_var (pv 7))) d_int) da_nil)) d_int) (d_tup (da_cons d_int (da_cons d_int da_nil)))))
    (ds_one (ds_app hK (pv 5) (d_tup (da_cons (d_tup (da_cons (d_var (pv 6)) (da_cons (d_var (pv 7)) da_nil))) (da_cons (d_if (dt_eq hK room.r.units (d_callB (hK ▸ cd_sum) (cr_sumA rfl) rfl t.n_sum (by decide +kernel) (da_cons (d_var (pv 6)) da_nil)) d_int) (d_var (pv 4)) d_str) (da_cons (d_eq hK room.r.units (d_var (pv 9)) (d_eq hK room.r.units (d_ix hK (d_var (pv 6)) (d_var (pv 8)) (fun _ _ => rfl)) (d_ix hK (d_var (pv 1)) (d_var (pv 8)) (fun _ _ => rfl)))) da_nil))))))))
    (dss_freeze (i := 5) (ds_one (ds_ret (d_var (pv 5)))))))))
def T__law_meeting : TDS := (dSeq (dFor (dCall 1 tf__law_marked (dCons (dVar 0) dNil)) (dgTup 3 (dgCons (dgName 2) (dgCons (dgName 3) (dgCons (dgName 4) dgNil))))
    (dFor (dCall 1 tf__law_marked (dCons (dVar 1) dNil)) (dgTup 3 (dgCons (dgName 5) (dgCons (dgName 6) (dgCons (dgName 7) dgNil))))
    (dIfS (dTest (dBin gEq (dVar 2) (dVar 5)))
    (dRet (dIf (dtAnd (dTest (dBin gEq (dVar 3) (dVar 6))) (dTest (dBin gNe (dVar 4) (dVar 7)))) (dC (.int 1)) (dUn gNeg (dC (.int 1)))))
    dNext)))
    (dRet (dC (.int 0))))
def tf__law_meeting : TF := fun _ ds Q => tfOf 8 T__law_meeting (fun _ => False) ds Q
theorem ok__law_meeting (t : Tx K mg) : FnG P w K mg base CX0 3 t.a__law_meeting t.d__law_meeting ["_law_one", "_law_other"] (spD K 2 tf__law_meeting) := by
  have sc := sc__law_meeting
  exact fng_data (N := ["_law_one", "_law_other", "_law_edge", "_law_mark", "_law_on_left", "_law_edge2", "_law_mark2", "_law_on_left2"]) (T := T__law_meeting) t.F__law_meeting sc fun cdv A outer s H E F hK hF room =>
    (ds_cons (ds_for hK PassesOwn.never rfl (d_call (ok__law_marked t) hK (room.mono (by decide)) rfl t.m__law_marked t.F__law_marked.kp (b__law_marked t) (da_cons (d_var (pv 0)) da_nil)) (dg_tup hK rfl (dgs_cons (dg_name (pg_name (i := 2) sc.nd rfl (by first | exact Or.inl rfl | exact Or.inr rfl))) (dgs_cons (dg_name (pg_name (i := 3) sc.nd rfl (by first | exact Or.inl rfl | exact Or.inr rfl))) (dgs_cons (dg_name (pg_name (i := 4) sc.nd rfl (by first | exact Or.inl rfl | exact Or.inr rfl))) dgs_nil))))
    (ds_one (ds_for hK PassesOwn.never rfl (d_call (ok__law_marked t) hK (room.mono (by decide)) rfl t.m__law_marked t.F__law_marked.kp (b__law_marked t) (da_cons (d_var (pv 1)) da_nil)) (dg_tup hK rfl (dgs_cons (dg_name (pg_name (i := 5) sc.nd rfl (by first | exact Or.inl rfl | exact Or.inr rfl))) (dgs_cons (dg_name (pg_name (i := 6) sc.nd rfl (by first | exact Or.inl rfl | exact Or.inr rfl))) (dgs_cons (dg_name (pg_name (i := 7) sc.nd rfl (by first | exact Or.inl rfl | exact Or.inr rfl))) dgs_nil))))
    (ds_one (ds_if (dt_eq hK room.r.units (d_var (pv 2)) (d_var (pv 5)))
    (ds_one (ds_ret (d_if (PW.pt (dw_and (dt_eq hK room.r.units (d_var (pv 3)) (d_var (pv 6))) (dw_and1 (dt_ne hK room.r.units (d_var (pv 4)) (d_var (pv 7)))))) d_int (d_neg d_int))))
    ds_nil)))))
    (ds_one (ds_ret d_int)))
def T__law_choices : TDS := (dSeq (dOwn (lLst dNil) 2)
    (dSeq (dForR2 (dCons (dC (.int 1)) (dCons (dC (.int 5)) dNil)) (dgName 3)
    (dSeq (dAsg (dBin gMod (dCB gInt (dCons (dBin gAddA (dBin gIx (dVar 0) (dC (.int 1))) (dVar 3)) dNil)) (dC (.int 5))) (dgName 4))
    (dSeq (dAsg (dIf (dTest (dBin gEq (dBin gLt (dVar 3) (dC (.int 3))) (dVar 1))) (dBin gIx (dVar 0) (dC (.int 0))) (dCall 3 tf__law_up (dCons (dBin gIx (dVar 0) (dC (.int 0))) (dCons (dVar 4) (dCons (dUn gNeg (dC (.int 1))) dNil))))) (dgName 5))
    (dIfS (dTest (dBin (gIn false) (dCB gSum (dCons (dVar 5) dNil)) (dTup (dCons (dC (.int 1)) (dCons (dC (.int 2)) dNil)))))
    (dApp 2 (dTup (dCons (dVar 5) (dCons (dCB gMin2 (dCons (dBin gIx (dVar 0) (dC (.int 1))) (dCons (dVar 4) dNil))) (dCons (dCB gMax2 (dCons (dBin gIx (dVar 0) (dC (.int 1))) (dCons (dVar 4) dNil))) dNil)))))
    dNext))))
    (dFreeze 2 (dRet (dVar 2)))))
def tf__law_choices : TF := fun _ ds Q => tfOf 6 T__law_choices (fun _ => False) ds Q
theorem ok__law_choices (t : Tx K mg) : FnG P w K mg base CX0 2 t.a__law_choices t.d__law_choices ["_law_edge", "_law_on_left"] (spD K 2 tf__law_choices) := by
  have sc := sc__law_choices
  exact fng_data (N := ["_law_edge", "_law_on_left", "_law_found", "_law_gap", "_law_s", "_law_foot"]) (T := T__law_choices) t.F__law_choices sc fun cdv A outer s H E F hK hF room =>
    (ds_cons (ds_own (i := 2) sc.nd rfl (by first | exact Or.inl rfl | exact Or.inr rfl) (l_lst da_nil))
    (ds_cons (ds_forR2 PassesOwn.never rfl rfl t.n_range (da_cons d_int (da_cons d_int da_nil)) (dg_name (pg_name (i := 3) sc.nd rfl (by first | exact Or.inl rfl | exact Or.inr rfl)))
    (ds_cons (ds_set (i := 4) sc.nd rfl (by first | exact Or.inl rfl | exact Or.inr rfl) (d_mod (d_callTy cd_int call_int1 rfl t.n_int (by decide +kernel) (da_cons (d_addA hK (d_ix hK (d_var (pv 0)) d_int (fun _ _ => rfl)) (d_var (pv 3))) da_nil)) d_int))
    (ds_cons (ds_set (i := 5) sc.nd rfl (by first | exact Or.inl rfl | exact Or.inr rfl) (d_if (dt_eq hK room.r.units (d_lt (d_var (pv 3)) d_int) (d_var (pv 1))) (d_ix hK (d_var (pv 0)) d_int (fun _ _ => rfl)) (d_call (ok__law_up t) hK (room.mono (by decide)) rfl t.m__law_up t.F__law_up.kp (b__law_up t) (da_cons (d_ix hK (d_var (pv 0)) d_int (fun _ _ => rfl)) (da_cons (d_var (pv 4)) (da_cons (d_neg d_int) da_nil))))))
    (ds_one (ds_if (dt_in hK (d_callB (hK ▸ cd_sum) (cr_sumA rfl) rfl t.n_sum (by decide +kernel) (da_cons (d_var (pv 5)) da_nil)) (d_tup (da_cons d_int (da_cons d_int da_nil))))
    (ds_one (ds_app hK (pv 2) (d_tup (da_cons (d_var (pv 5)) (da_cons (d_callB cd_min2 (call_min2 rfl) rfl t.n_min (by decide +kernel) (da_cons (d_ix hK (d_var (pv 0)) d_int (fun _ _ => rfl)) (da_cons (d_var (pv 4)) da_nil))) (da_cons (d_callB cd_max2 (call_max2 rfl) rfl t.n_max (by decide +kernel) (da_cons (d_ix hK (d_var (pv 0)) d_int (fun _ _ => rfl)) (da_cons (d_var (pv 4)) da_nil))) da_nil))))))
    ds_nil)))))
    (dss_freeze (i := 2) (ds_one (ds_ret (d_var (pv 2)))))))
def T__law_do_overlap : TDS := (dSeq (dAsg (dBin gAddA (dSl (dVar 0) (dPart (dC (.int 1))) dNoPart) (dSl (dVar 1) (dPart (dC (.int 1))) dNoPart)) (dgName 2))
    (dSeq (dOwn (lLcZ (dCons (dBin gIx (dVar 0) (dC (.int 0))) (dCons (dBin gIx (dVar 1) (dC (.int 0))) dNil)) 4 5 dYes (dBin gMulA (dC (.int 2)) (dBin gSub (dVar 5) (dVar 4)))) 3)
    (dSeq (dForE (dCons (dVar 2) dNil) (dgTup 2 (dgCons (dgName 6) (dgCons (dgName 7) dgNil)))
    (dSetAt 3 (dVar 7) (dBin gAddA (dOwnIx 3 (dVar 7)) (dIf (dTest (dBin gGt (dVar 6) (dC (.int 1)))) (dC (.int 1)) (dUn gNeg (dC (.int 1)))))))
    (dFreeze 3 (dSeq (dForV 2 (dgName 8)
    (dSeq (dPar 9 10 (dCons (dBin gSub (dBin gIx (dVar 3) (dBin gSub (dVar 8) (dC (.int 3)))) (dBin gIx (dVar 3) (dBin gSub (dVar 8) (dC (.int 2))))) (dCons (dBin gSub (dBin gIx (dVar 3) (dBin gSub (dVar 8) (dC (.int 4)))) (dBin gIx (dVar 3) (dBin gSub (dVar 8) (dC (.int 1))))) dNil)))
    (dSeq (dIfS (dTest (dBin gLt (dCall 2 tf__law_sign (dCons (dVar 9) (dCons (dVar 10) dNil))) (dC (.int 0))))
    (dPar 9 10 (dCons (dUn gNeg (dVar 9)) (dCons (dUn gNeg (dVar 10)) dNil)))
    dNext)
    (dSeq (dForV 2 (dgName 7)
    (dPar 9 10 (dCons (dBin gSub (dVar 9) (dCB gInt (dCons (dBin (gIn false) (dCB gAbs (dCons (dBin gSub (dVar 7) (dVar 8)) dNil)) (dTup (dCons (dC (.int 2)) (dCons (dC (.int 3)) dNil)))) dNil))) (dCons (dBin gSub (dVar 10) (dCB gInt (dCons (dBin (gIn false) (dCB gAbs (dCons (dBin gSub (dVar 7) (dVar 8)) dNil)) (dTup (dCons (dC (.int 1)) (dCons (dC (.int 4)) dNil)))) dNil))) dNil))))
    (dIfS (dTest (dBin gGe (dCall 2 tf__law_sign (dCons (dVar 9) (dCons (dVar 10) dNil))) (dC (.int 0))))
    (dRet (dC (.bl false)))
    dNext)))))
    (dRet (dC (.bl true))))))))
def tf__law_do_overlap : TF := fun _ ds Q => tfOf 11 T__law_do_overlap (fun _ => False) ds Q
theorem ok__law_do_overlap (t : Tx K mg) : FnG P w K mg base CX0 2 t.a__law_do_overlap t.d__law_do_overlap ["_law_one", "_law_other"] (spD K 2 tf__law_do_overlap) := by
  have sc := sc__law_do_overlap
  exact fng_data (N := ["_law_one", "_law_other", "_law_dirs", "_law_away", "_law_x", "_law_y", "_law_at", "_law_j", "_law_d", "_law_a", "_law_b"]) (T := T__law_do_overlap) t.F__law_do_overlap sc fun cdv A outer s H E F hK hF room =>
    (ds_cons (ds_set (i := 2) sc.nd rfl (by first | exact Or.inl rfl | exact Or.inr rfl) (d_addA hK (d_slice hK (d_var (pv 0)) (do_some d_int) do_none) (d_slice hK (d_var (pv 1)) (do_some d_int) do_none)))
    (ds_cons (ds_ownLcZ hK rfl sc.nd (by decide) (by rfl) t.n_zip (da_cons (d_ix hK (d_var (pv 0)) d_int (fun _ _ => rfl)) (da_cons (d_ix hK (d_var (pv 1)) d_int (fun _ _ => rfl)) da_nil)) (blkOk_by (own := [("_law_x", 4), ("_law_y", 5)]) (N := ["_law_one", "_law_other", "_law_dirs", "_law_away", "_law_x", "_law_y", "_law_at", "_law_j", "_law_d", "_law_a", "_law_b"]) (sc := defScope s__law_do_overlap) (by decide +kernel)) rfl (i := 3) rfl rfl (sw_true rfl rfl rfl (by decide +kernel)) (fun _ _ _ _ _ => pg_tup rfl (pgs_cons (pg_name (i := 4) sc.nd rfl (Or.inl rfl)) (pgs_cons (pg_name (i := 5) sc.nd rfl (Or.inl rfl)) pgs_nil))) (fun _ _ _ _ _ => dts_nil) (fun _ _ _ _ _ => (d_mulA d_int (d_sub (d_var (pv 5)) (d_var (pv 4))))))
    (ds_cons (ds_forE hK PassesOwn.never rfl rfl t.n_enumerate (da_cons (d_var (pv 2)) da_nil) (dg_tup hK rfl (dgs_cons (dg_name (pg_name (i := 6) sc.nd rfl (by first | exact Or.inl rfl | exact Or.inr rfl))) (dgs_cons (dg_name (pg_name (i := 7) sc.nd rfl (by first | exact Or.inl rfl | exact Or.inr rfl))) dgs_nil)))
    (ds_one (ds_setAt (pv 3) (d_var (pv 7)) (d_addA hK (d_ownIx hK (pv 3) (d_var (pv 7)) (fun _ _ => rfl)) (d_if (dt_gt (d_var (pv 6)) d_int) d_int (d_neg d_int))))))
    (dss_freeze (i := 3) (ds_cons (ds_forV hK PassesOwn.never rfl (pv 2) (dg_name (pg_name (i := 8) sc.nd rfl (by first | exact Or.inl rfl | exact Or.inr rfl)))
    (ds_cons (ds_par (i := 9) (j := 10) rfl sc.nd rfl rfl (by decide) rfl rfl (da_cons (d_sub (d_ix hK (d_var (pv 3)) (d_sub (d_var (pv 8)) d_int) (fun _ _ => rfl)) (d_ix hK (d_var (pv 3)) (d_sub (d_var (pv 8)) d_int) (fun _ _ => rfl))) (da_cons (d_sub (d_ix hK (d_var (pv 3)) (d_sub (d_var (pv 8)) d_int) (fun _ _ => rfl)) (d_ix hK (d_var (pv 3)) (d_sub (d_var (pv 8)) d_int) (fun _ _ => rfl))) da_nil)))
    (ds_cons (ds_if (dt_lt (d_call (ok__law_sign t) hK (room.mono (by decide)) rfl t.m__law_sign t.F__law_sign.kp (b__law_sign t) (da_cons (d_var (pv 9)) (da_cons (d_var (pv 10)) da_nil))) d_int)
    (ds_one (ds_par (i := 9) (j := 10) rfl sc.nd rfl rfl (by decide) rfl rfl (da_cons (d_neg (d_var (pv 9))) (da_cons (d_neg (d_var (pv 10))) da_nil))))
    ds_nil)
    (ds_cons (ds_forV hK PassesOwn.never rfl (pv 2) (dg_name (pg_name (i := 7) sc.nd rfl (by first | exact Or.inl rfl | exact Or.inr rfl)))
    (ds_one (ds_par (i := 9) (j := 10) rfl sc.nd rfl rfl (by decide) rfl rfl (da_cons (d_sub (d_var (pv 9)) (d_callTy cd_int call_int1 rfl t.n_int (by decide +kernel) (da_cons (d_in hK (d_callB cd_abs call_abs rfl t.n_abs (by decide +kernel) (da_cons (d_sub (d_var (pv 7)) (d_var (pv 8))) da_nil)) (d_tup (da_cons d_int (da_cons d_int da_nil)))) da_nil))) (da_cons (d_sub (d_var (pv 10)) (d_callTy cd_int call_int1 rfl t.n_int (by decide +kernel) (da_cons (d_in hK (d_callB cd_abs call_abs rfl t.n_abs (by decide +kernel) (da_cons (d_sub (d_var (pv 7)) (d_var (pv 8))) da_nil)) (d_tup (da_cons d_int (da_cons d_int da_nil)))) da_nil))) da_nil)))))
    (ds_one (ds_if (dt_ge (d_call (ok__law_sign t) hK (room.mono (by decide)) rfl t.m__law_sign t.F__law_sign.kp (b__law_sign t) (da_cons (d_var (pv 9)) (da_cons (d_var (pv 10)) da_nil))) d_int)
    (ds_one (ds_ret d_bl))
    ds_nil))))))
    (ds_one (ds_ret d_bl)))))))
def T__law_is_tile : TDS := (dSeq (dIfS (dtOr (dtNot (dTest (dUn (gIs .tuple) (dVar 0)))) (dtOr (dTest (dBin gNe (dCB gLen (dCons (dVar 0) dNil)) (dC (.int 3)))) (dtOr (dtNot (dTest (dUn (gIs .tuple) (dBin gIx (dVar 0) (dC (.int 0)))))) (dTest (dBin gNe (dCB gLen (dCons (dBin gIx (dVar 0) (dC (.int 0))) dNil)) (dC (.int 5)))))))
    (dRet (dC (.bl false)))
    dNext)
    (dSeq (dIfS (dTest (dBin gNeL (dLcT (dBin gAddA (dBin gIx (dVar 0) (dC (.int 0))) (dSl (dVar 0) (dPart (dC (.int 1))) dNoPart)) 1 (dtNot (dTest (dCall 1 tf__law_is_integer (dCons (dVar 1) dNil)))) (dVar 1)) (dLst dNil)))
    (dRet (dC (.bl false)))
    dNext)
    (dRet (dAnd (dBin (gIn false) (dCB gSum (dCons (dBin gIx (dVar 0) (dC (.int 0))) dNil)) (dTup (dCons (dC (.int 1)) (dCons (dC (.int 2)) dNil)))) (dChain3 gLe gLt gLe (dC (.int 0)) (dBin gIx (dVar 0) (dC (.int 1))) (dBin gIx (dVar 0) (dC (.int 2))) (dC (.int 4)))))))
def tf__law_is_tile : TF := fun _ ds Q => tfOf 2 T__law_is_tile (fun _ => False) ds Q
theorem ok__law_is_tile (t : Tx K mg) : FnG P w K mg base CX0 2 t.a__law_is_tile t.d__law_is_tile ["_law_thing"] (spD K 1 tf__law_is_tile) := by
  have sc := sc__law_is_tile
  exact fng_data (N := ["_law_thing", "_law_it"]) (T := T__law_is_tile) t.F__law_is_tile sc fun cdv A outer s H E F hK hF room =>
    (ds_cons (ds_if (PW.pt (dw_or (dt_not (dt_val (d_isi (T := .tuple) hK rfl t.n_isinstance rfl t.n_tuple (by decide +kernel) (d_var (pv 0))))) (dw_or (dt_ne hK room.r.units (d_callB (hK ▸ cd_len) call_len_seq rfl t.n_len (by decide +kernel) (da_cons (d_var (pv 0)) da_nil)) d_int) (dw_or (dt_not (dt_val (d_isi (T := .tuple) hK rfl t.n_isinstance rfl t.n_tuple (by decide +kernel) (d_ix hK (d_var (pv 0)) d_int (fun _ _ => rfl))))) (dw_or1 (dt_ne hK room.r.units (d_callB (hK ▸ cd_len) call_len_seq rfl t.n_len (by decide +kernel) (da_cons (d_ix hK (d_var (pv 0)) d_int (fun _ _ => rfl)) da_nil)) d_int))))))
    (ds_one (ds_ret d_bl))
    ds_nil)
    (ds_cons (ds_if (dt_neL hK room.r.units (d_lcT hK rfl sc.nd (d_addA hK (d_ix hK (d_var (pv 0)) d_int (fun _ _ => rfl)) (d_slice hK (d_var (pv 0)) (do_some d_int) do_none)) (blkOk_by (own := [("_law_it", 1)]) (N := ["_law_thing", "_law_it"]) (sc := defScope s__law_is_tile) (by decide +kernel)) rfl (fun _ _ _ _ _ => pg_name (i := 1) sc.nd rfl (Or.inl rfl)) (fun _ _ _ _ _ => (dts_one (dt_not (dt_val (d_call (ok__law_is_integer t) hK (room.mono (by decide)) rfl t.m__law_is_integer t.F__law_is_integer.kp (b__law_is_integer t) (da_cons (d_var (pv 1)) da_nil)))))) (fun _ _ _ _ _ => (d_var (pv 1)))) (d_lst da_nil))
    (ds_one (ds_ret d_bl))
    ds_nil)
    (ds_one (ds_ret (d_and (d_in hK (d_callB (hK ▸ cd_sum) (cr_sumA rfl) rfl t.n_sum (by decide +kernel) (da_cons (d_ix hK (d_var (pv 0)) d_int (fun _ _ => rfl)) da_nil)) (d_tup (da_cons d_int (da_cons d_int da_nil)))) (d_one (d_chain3 op_le op_lt op_le od_le od_lt od_le d_int (d_ix hK (d_var (pv 0)) d_int (fun _ _ => rfl)) (d_ix hK (d_var (pv 0)) d_int (fun _ _ => rfl)) d_int)))))))
def T__law_odd : TDS := (dSeq (dAsg (dLst (dCons (dC .non) (dCons (dC (.bl true)) (dCons (dC (.int 0)) (dCons (dUn gNeg (dC (.int 1))) (dCons (dBin gPow (dC (.int 10)) (dC (.int 60))) (dCons (dC (.str "")) (dCons (dC (.str "tile")) (dCons (dTup dNil) (dCons (dLst dNil) (dCons (dC (.dct [] [])) (dCons (dTup (dCons (dC (.int 0)) (dCons (dC (.int 0)) (dCons (dC (.int 0)) (dCons (dC (.int 0)) (dCons (dC (.int 1)) dNil)))))) (dCons (dTup (dCons (dC (.str "a")) dNil)) (dCons (dTup (dCons (dTup dNil) dNil)) (dCons (dLst (dCons (dLst dNil) dNil)) (dCons (dDict1 (.inr "tile") (dTup (dCons (dC (.int 1)) dNil))) dNil)))))))))))))))) (dgName 1))
    (dRet (dCall 2 tf__law_pick (dCons (dVar 0) (dCons (dBin gAddA (dVar 1) (dLst (dCons (dTup (dCons (dTup (dCons (dC (.int 0)) (dCons (dC (.int 0)) (dCons (dC (.int 0)) (dCons (dC (.int 0)) (dCons (dC (.int 1)) dNil)))))) (dCons (dTup (dCons (dC (.int 0)) (dCons (dC (.int 1)) dNil))) dNil))) (dCons (dTup (dCons (dTup (dCons (dTup (dCons (dC (.int 0)) (dCons (dC (.int 0)) (dCons (dC (.int 0)) (dCons (dC (.int 0)) (dCons (dC (.int 1)) dNil)))))) (dCons (dC (.int 0)) (dCons (dC (.int 1)) dNil)))) (dCons (dC (.int 2)) (dCons (dC (.int 3)) dNil)))) (dCons (dC (.str "((0, 0, 0, 0, 1), 0, 1)")) dNil))))) dNil)))))
def tf__law_odd : TF := fun _ ds Q => tfOf 2 T__law_odd (fun _ => False) ds Q
theorem ok__law_odd (t : Tx K mg) : FnG P w K mg base CX0 3 t.a__law_odd t.d__law_odd ["_law_deck_here"] (spD K 1 tf__law_odd) := by
  have sc := sc__law_odd
  exact fng_data (N := ["_law_deck_here", "_law_some"]) (T := T__law_odd) t.F__law_odd sc fun cdv A outer s H E F hK hF room =>
    (ds_cons (ds_set (i := 1) sc.nd rfl (by first | exact Or.inl rfl | exact Or.inr rfl) (d_lst (da_cons d_non (da_cons d_bl (da_cons d_int (da_cons (d_neg d_int) (da_cons (d_pow d_int d_int) (da_cons d_str (da_cons d_str (da_cons (d_tup da_nil) (da_cons (d_lst da_nil) (da_cons d_dict0 (da_cons (d_tup (da_cons d_int (da_cons d_int (da_cons d_int (da_cons d_int (da_cons d_int da_nil)))))) (da_cons (d_tup (da_cons d_str da_nil)) (da_cons (d_tup (da_cons (d_tup da_nil) da_nil)) (da_cons (d_lst (da_cons (d_lst da_nil) da_nil)) (da_cons (d_dict1 pe_str (d_tup (da_cons d_int da_nil))) da_nil)))))))))))))))))
    (ds_one (ds_ret (d_call (ok__law_pick t) hK (room.mono (by decide)) rfl t.m__law_pick t.F__law_pick.kp (b__law_pick t) (da_cons (d_var (pv 0)) (da_cons (d_addA hK (d_var (pv 1)) (d_lst (da_cons (d_tup (da_cons (d_tup (da_cons d_int (da_cons d_int (da_cons d_int (da_cons d_int (da_cons d_int da_nil)))))) (da_cons (d_tup (da_cons d_int (da_cons d_int da_nil))) da_nil))) (da_cons (d_tup (da_cons (d_tup (da_cons (d_tup (da_cons d_int (da_cons d_int (da_cons d_int (da_cons d_int (da_cons d_int da_nil)))))) (da_cons d_int (da_cons d_int da_nil)))) (da_cons d_int (da_cons d_int da_nil)))) (da_cons d_str da_nil))))) da_nil))))))
def T__law_bent_tile : TDS := (dSeq (dAsg (dVar 1) (dgTup 3 (dgCons (dgName 2) (dgCons (dgName 3) (dgCons (dgName 4) dgNil)))))
    (dSeq (dPar 5 6 (dCons (dCall 2 tf_draw (dCons (dVar 0) (dCons (dC (.int 14)) dNil))) (dCons (dCall 2 tf_draw (dCons (dVar 0) (dCons (dC (.int 5)) dNil))) dNil)))
    (dSeq (dIfS (dTest (dBin gLt (dVar 5) (dC (.int 2))))
    (dRet (dIf (dTest (dBin gEq (dVar 5) (dC (.int 0)))) (dCB gList (dCons (dVar 1) dNil)) (dTup (dCons (dCB gList (dCons (dVar 2) dNil)) (dCons (dVar 3) (dCons (dVar 4) dNil))))))
    dNext)
    (dSeq (dIfS (dTest (dBin gLt (dVar 5) (dC (.int 4))))
    (dRet (dIf (dTest (dBin gEq (dVar 5) (dC (.int 2)))) (dTup (dCons (dVar 2) (dCons (dVar 4) (dCons (dVar 3) dNil)))) (dTup (dCons (dVar 2) (dCons (dVar 3) (dCons (dVar 3) dNil))))))
    dNext)
    (dSeq (dIfS (dTest (dBin gLt (dVar 5) (dC (.int 6))))
    (dRet (dIf (dTest (dBin gEq (dVar 5) (dC (.int 4)))) (dTup (dCons (dVar 2) (dCons (dVar 3) dNil))) (dTup (dCons (dVar 2) (dCons (dVar 3) (dCons (dVar 4) (dCons (dC (.int 0)) dNil)))))))
    dNext)
    (dSeq (dIfS (dTest (dBin gEq (dVar 5) (dC (.int 6))))
    (dRet (dTup (dCons (dCall 3 tf__law_up (dCons (dVar 2) (dCons (dVar 6) (dCons (dCall 2 tf__law_pick (dCons (dVar 0) (dCons (dLst (dCons (dC (.int 1)) (dCons (dUn gNeg (dC (.int 1))) (dCons (dC (.int 2)) (dCons (dUn gNeg (dC (.int 2))) (dCons (dC (.int 3)) (dCons (dC (.int 5)) (dCons (dUn gNeg (dC (.int 5))) dNil)))))))) dNil))) dNil)))) (dCons (dVar 3) (dCons (dVar 4) dNil)))))
    dNext)
    (dSeq (dIfS (dTest (dBin gLt (dVar 5) (dC (.int 9))))
    (dRet (dIf (dTest (dBin gEq (dVar 5) (dC (.int 7)))) (dTup (dCons (dSl (dVar 2) dNoPart (dPart (dC (.int 4)))) (dCons (dVar 3) (dCons (dVar 4) dNil)))) (dTup (dCons (dBin gAddA (dVar 2) (dTup (dCons (dC (.int 0)) dNil))) (dCons (dVar 3) (dCons (dVar 4) dNil))))))
    dNext)
    (dSeq (dIfS (dTest (dBin gEq (dVar 5) (dC (.int 9))))
    (dRet (dTup (dCons (dBin gAddA (dBin gAddA (dSl (dVar 2) dNoPart (dPart (dVar 6))) (dTup (dCons (dCall 2 tf__law_pick (dCons (dVar 0) (dCons (dLst (dCons (dC (.bl true)) (dCons (dC (.bl false)) (dCons (dC .non) (dCons (dC (.str "0")) (dCons (dTup (dCons (dC (.int 0)) dNil)) (dCons (dLst (dCons (dC (.int 1)) dNil)) dNil))))))) dNil))) dNil))) (dSl (dVar 2) (dPart (dBin gAddA (dVar 6) (dC (.int 1)))) dNoPart)) (dCons (dVar 3) (dCons (dVar 4) dNil)))))
    dNext)
    (dSeq (dIfS (dTest (dBin gEq (dVar 5) (dC (.int 10))))
    (dRet (dTup (dCons (dVar 2) (dCons (dCall 2 tf__law_pick (dCons (dVar 0) (dCons (dLst (dCons (dC (.bl true)) (dCons (dC (.bl false)) (dCons (dC .non) (dCons (dUn gNeg (dC (.int 1))) (dCons (dC (.int 5)) (dCons (dC (.str "0")) (dCons (dTup (dCons (dVar 3) dNil)) dNil)))))))) dNil))) (dCons (dVar 4) dNil)))))
    dNext)
    (dSeq (dIfS (dTest (dBin gEq (dVar 5) (dC (.int 11))))
    (dRet (dTup (dCons (dVar 2) (dCons (dVar 3) (dCons (dCall 2 tf__law_pick (dCons (dVar 0) (dCons (dLst (dCons (dC (.bl true)) (dCons (dC (.int 5)) (dCons (dC .non) (dCons (dC (.str "4")) (dCons (dUn gNeg (dC (.int 1))) (dCons (dLst (dCons (dVar 4) dNil)) (dCons (dBin gPow (dC (.int 10)) (dC (.int 30))) dNil)))))))) dNil))) dNil)))))
    dNext)
    (dRet (dIf (dTest (dBin gEq (dVar 5) (dC (.int 12)))) (dTup (dCons (dTup (dCons (dVar 2) (dCons (dVar 3) (dCons (dVar 4) dNil)))) dNil)) (dCall 1 tf__law_odd (dCons (dVar 0) dNil))))))))))))))
def tf__law_bent_tile : TF := fun _ ds Q => tfOf 7 T__law_bent_tile (fun _ => False) ds Q
theorem ok__law_bent_tile (t : Tx K mg) : FnG P w K mg base CX0 4 t.a__law_bent_tile t.d__law_bent_tile ["_law_deck_here", "_law_tile"] (spD K 2 tf__law_bent_tile) := by
  have sc := sc__law_bent_tile
  exact fng_data (N := ["_law_deck_here", "_law_tile", "_law_k", "_law_r", "_law_s", "_law_way", "_law_at"]) (T := T__law_bent_tile) t.F__law_bent_tile sc fun cdv A outer s H E F hK hF room =>
    (ds_cons (ds_asg (d_var (pv 1)) (dg_tup hK rfl (dgs_cons (dg_name (pg_name (i := 2) sc.nd rfl (by first | exact Or.inl rfl | exact Or.inr rfl))) (dgs_cons (dg_name (pg_name (i := 3) sc.nd rfl (by first | exact Or.inl rfl | exact Or.inr rfl))) (dgs_cons (dg_name (pg_name (i := 4) sc.nd rfl (by first | exact Or.inl rfl | exact Or.inr rfl))) dgs_nil)))))
    (ds_cons (ds_par (i := 5) (j := 6) rfl sc.nd rfl rfl (by decide) rfl rfl (da_cons (d_call (ok__law_draw t) hK (room.mono (by decide)) rfl t.m__law_draw t.F__law_draw.kp (b__law_draw t) (da_cons (d_var (pv 0)) (da_cons d_int da_nil))) (da_cons (d_call (ok__law_draw t) hK (room.mono (by decide)) rfl t.m__law_draw t.F__law_draw.kp (b__law_draw t) (da_cons (d_var (pv 0)) (da_cons d_int da_nil))) da_nil)))
    (ds_cons (ds_if (dt_lt (d_var (pv 5)) d_int)
    (ds_one (ds_ret (d_if (dt_eq hK room.r.units (d_var (pv 5)) d_int) (d_callTy (hK ▸ cd_list) call_list_of rfl t.n_list (by decide +kernel) (da_cons (d_var (pv 1)) da_nil)) (d_tup (da_cons (d_callTy (hK ▸ cd_list) call_list_of rfl t.n_list (by decide +kernel) (da_cons (d_var (pv 2)) da_nil)) (da_cons (d_var (pv 3)) (da_cons (d_var (pv 4)) da_nil)))))))
    ds_nil)
    (ds_cons (ds_if (dt_lt (d_var (pv 5)) d_int)
    (ds_one (ds_ret (d_if (dt_eq hK room.r.units (d_var (pv 5)) d_int) (d_tup (da_cons (d_var (pv 2)) (da_cons (d_var (pv 4)) (da_cons (d_var (pv 3)) da_nil)))) (d_tup (da_cons (d_var (pv 2)) (da_cons (d_var (pv 3)) (da_cons (d_var (pv 3)) da_nil)))))))
    ds_nil)
    (ds_cons (ds_if (dt_lt (d_var (pv 5)) d_int)
    (ds_one (ds_ret (d_if (dt_eq hK room.r.units (d_var (pv 5)) d_int) (d_tup (da_cons (d_var (pv 2)) (da_cons (d_var (pv 3)) da_nil))) (d_tup (da_cons (d_var (pv 2)) (da_cons (d_var (pv 3)) (da_cons (d_var (pv 4)) (da_cons d_int da_nil))))))))
    ds_nil)
    (ds_cons (ds_if (dt_eq hK room.r.units (d_var (pv 5)) d_int)
    (ds_one (ds_ret (d_tup (da_cons (d_call (ok__law_up t) hK (room.mono (by decide)) rfl t.m__law_up t.F__law_up.kp (b__law_up t) (da_cons (d_var (pv 2)) (da_cons (d_var (pv 6)) (da_cons (d_call (ok__law_pick t) hK (room.mono (by decide)) rfl t.m__law_pick t.F__law_pick.kp (b__law_pick t) (da_cons (d_var (pv 0)) (da_cons (d_lst (da_cons d_int (da_cons (d_neg d_int) (da_cons d_int (da_cons (d_neg d_int) (da_cons d_int (da_cons d_int (da_cons (d_neg d_int) da_nil)))))))) da_nil))) da_nil)))) (da_cons (d_var (pv 3)) (da_cons (d_var (pv 4)) da_nil))))))
    ds_nil)
    (ds_cons (ds_if (dt_lt (d_var (pv 5)) d_int)
    (ds_one (ds_ret (d_if (dt_eq hK room.r.units (d_var (pv 5)) d_int) (d_tup (da_cons (d_slice hK (d_var (pv 2)) do_none (do_some d_int)) (da_cons (d_var (pv 3)) (da_cons (d_var (pv 4)) da_nil)))) (d_tup (da_cons (d_addA hK (d_var (pv 2)) (d_tup (da_cons d_int da_nil))) (da_cons (d_var (pv 3)) (da_cons (d_var (pv 4)) da_nil)))))))
    ds_nil)
    (ds_cons (ds_if (dt_eq hK room.r.units (d_var (pv 5)) d_int)
    (ds_one (ds_ret (d_tup (da_cons (d_addA hK (d_addA hK (d_slice hK (d_var (pv 2)) do_none (do_some (d_var (pv 6)))) (d_tup (da_cons (d_call (ok__law_pick t) hK (room.mono (by decide)) rfl t.m__law_pick t.F__law_pick.kp (b__law_pick t) (da_cons (d_var (pv 0)) (da_cons (d_lst (da_cons d_bl (da_cons d_bl (da_cons d_non (da_cons d_str (da_cons (d_tup (da_cons d_int da_nil)) (da_cons (d_lst (da_cons d_int da_nil)) da_nil))))))) da_nil))) da_nil))) (d_slice hK (d_var (pv 2)) (do_some (d_addA hK (d_var (pv 6)) d_int)) do_none)) (da_cons (d_var (pv 3)) (da_cons (d_var (pv 4)) da_nil))))))
    ds_nil)
    (ds_cons (ds_if (dt_eq hK room.r.units (d_var (pv 5)) d_int)
    (ds_one (ds_ret (d_tup (da_cons (d_var (pv 2)) (da_cons (d_call (ok__law_pick t) hK (room.mono (by decide)) rfl t.m__law_pick t.F__law_pick.kp (b__law_pick t) (da_cons (d_var (pv 0)) (da_cons (d_lst (da_cons d_bl (da_cons d_bl (da_cons d_non (da_cons (d_neg d_int) (da_cons d_int (da_cons d_str (da_cons (d_tup (da_cons (d_var (pv 3)) da_nil)) da_nil)))))))) da_nil))) (da_cons (d_var (pv 4)) da_nil))))))
    ds_nil)
    (ds_cons (ds_if (dt_eq hK room.r.units (d_var (pv 5)) d_int)
    (ds_one (ds_ret (d_tup (da_cons (d_var (pv 2)) (da_cons (d_var (pv 3)) (da_cons (d_call (ok__law_pick t) hK (room.mono (by decide)) rfl t.m__law_pick t.F__law_pick.kp (b__law_pick t) (da_cons (d_var (pv 0)) (da_cons (d_lst (da_cons d_bl (da_cons d_int (da_cons d_non (da_cons d_str (da_cons (d_neg d_int) (da_cons (d_lst (da_cons (d_var (pv 4)) da_nil)) (da_cons (d_pow d_int d_int) da_nil)))))))) da_nil))) da_nil))))))
    ds_nil)
    (ds_one (ds_ret (d_if (dt_eq hK room.r.units (d_var (pv 5)) d_int) (d_tup (da_cons (d_tup (da_cons (d_var (pv 2)) (da_cons (d_var (pv 3)) (da_cons (d_var (pv 4)) da_nil)))) da_nil)) (d_call (ok__law_odd t) hK (room.mono (by decide)) rfl t.m__law_odd t.F__law_odd.kp (b__law_odd t) (da_cons (d_var (pv 0)) da_nil)))))))))))))))
def T__law_great : TDS := (dSeq (dAsg (dC (.int 0)) (dgName 1))
    (dSeq (dForR (dCons (dC (.int 5)) dNil) (dgName 2)
    (dAsg (dBin gAddA (dBin gMulA (dVar 1) (dBin gPow (dC (.int 10)) (dC (.int 6)))) (dCall 2 tf_draw (dCons (dVar 0) (dCons (dBin gPow (dC (.int 10)) (dC (.int 6))) dNil)))) (dgName 1)))
    (dRet (dIf (dTest (dBin gEq (dCall 2 tf_draw (dCons (dVar 0) (dCons (dC (.int 2)) dNil))) (dC (.int 0)))) (dVar 1) (dBin gSub (dUn gNeg (dC (.int 1))) (dVar 1))))))
def tf__law_great : TF := fun _ ds Q => tfOf 3 T__law_great (fun _ => False) ds Q
theorem ok__law_great (t : Tx K mg) : FnG P w K mg base CX0 2 t.a__law_great t.d__law_great ["_law_deck_here"] (spD K 1 tf__law_great) := by
  have sc := sc__law_great
  exact fng_data (N := ["_law_deck_here", "_law_found", "_law_turn"]) (T := T__law_great) t.F__law_great sc fun cdv A outer s H E F hK hF room =>
    (ds_cons (ds_set (i := 1) sc.nd rfl (by first | exact Or.inl rfl | exact Or.inr rfl) d_int)
    (ds_cons (ds_forR1 PassesOwn.never rfl rfl t.n_range (da_cons d_int da_nil) (dg_name (pg_name (i := 2) sc.nd rfl (by first | exact Or.inl rfl | exact Or.inr rfl)))
    (ds_one (ds_set (i := 1) sc.nd rfl (by first | exact Or.inl rfl | exact Or.inr rfl) (d_addA hK (d_mulA (d_var (pv 1)) (d_pow d_int d_int)) (d_call (ok__law_draw t) hK (room.mono (by decide)) rfl t.m__law_draw t.F__law_draw.kp (b__law_draw t) (da_cons (d_var (pv 0)) (da_cons (d_pow d_int d_int) da_nil)))))))
    (ds_one (ds_ret (d_if (dt_eq hK room.r.units (d_call (ok__law_draw t) hK (room.mono (by decide)) rfl t.m__law_draw t.F__law_draw.kp (b__law_draw t) (da_cons (d_var (pv 0)) (da_cons d_int da_nil))) d_int) (d_var (pv 1)) (d_sub (d_neg d_int) (d_var (pv 1))))))))
def T__law_any_tile : TDS := (dSeq (dAsg (dLcR (dCons (dC (.int 4)) dNil) 2 dYes (dIf (dTest (dBin gEq (dCall 2 tf_draw (dCons (dVar 0) (dCons (dC (.int 6)) dNil))) (dC (.int 0)))) (dCall 1 tf__law_great (dCons (dVar 0) dNil)) (dBin gSub (dCall 2 tf_draw (dCons (dVar 0) (dCons (dC (.int 5)) dNil))) (dC (.int 2))))) (dgName 1))
    (dSeq (dPar 3 2 (dCons (dCB gTuple (dCons (dBin gAddA (dVar 1) (dLst (dCons (dBin gSub (dBin gAddA (dC (.int 1)) (dCall 2 tf_draw (dCons (dVar 0) (dCons (dC (.int 2)) dNil)))) (dCB gSum (dCons (dVar 1) dNil))) dNil))) dNil)) (dCons (dCall 2 tf_draw (dCons (dVar 0) (dCons (dC (.int 5)) dNil))) dNil)))
    (dSeq (dAsg (dBin gMod (dCB gInt (dCons (dBin gAddA (dBin gAddA (dVar 2) (dC (.int 1))) (dCall 2 tf_draw (dCons (dVar 0) (dCons (dC (.int 4)) dNil)))) dNil)) (dC (.int 5))) (dgName 4))
    (dRet (dTup (dCons (dVar 3) (dCons (dCB gMin2 (dCons (dVar 2) (dCons (dVar 4) dNil))) (dCons (dCB gMax2 (dCons (dVar 2) (dCons (dVar 4) dNil))) dNil))))))))
def tf__law_any_tile : TF := fun _ ds Q => tfOf 5 T__law_any_tile (fun _ => False) ds Q
theorem ok__law_any_tile (t : Tx K mg) : FnG P w K mg base CX0 3 t.a__law_any_tile t.d__law_any_tile ["_law_deck_here"] (spD K 1 tf__law_any_tile) := by
  have sc := sc__law_any_tile
  exact fng_data (N := ["_law_deck_here", "_law_some", "_law_j", "_law_k", "_law_s"]) (T := T__law_any_tile) t.F__law_any_tile sc fun cdv A outer s H E F hK hF room =>
    (ds_cons (ds_setLcR hK rfl sc.nd (by rfl) t.n_range (da_cons d_int da_nil) (blkOk_by (own := [("_law_j", 2)]) (N := ["_law_deck_here", "_law_some", "_law_j", "_law_k", "_law_s"]) (sc := defScope s__law_any_tile) (by decide +kernel)) rfl (i := 1) rfl rfl (sw_true rfl rfl rfl (by decide +kernel)) (fun _ _ _ _ _ => pg_name (i := 2) sc.nd rfl (Or.inl rfl)) (fun _ _ _ _ _ => dts_nil) (fun _ _ _ _ _ => (d_if (dt_eq hK room.r.units (d_call (ok__law_draw t) hK (room.mono (by decide)) rfl t.m__law_draw t.F__law_draw.kp (b__law_draw t) (da_cons (d_var (pv 0)) (da_cons d_int da_nil))) d_int) (d_call (ok__law_great t) hK (room.mono (by decide)) rfl t.m__law_great t.F__law_great.kp (b__law_great t) (da_cons (d_var (pv 0)) da_nil)) (d_sub (d_call (ok__law_draw t) hK (room.mono (by decide)) rfl t.m__law_draw t.F__law_draw.kp (b__law_draw t) (da_cons (d_var (pv 0)) (da_cons d_int da_nil))) d_int))))
    (ds_cons (ds_par (i := 3) (j := 2) rfl sc.nd rfl rfl (by decide) rfl rfl (da_cons (d_callTy (hK ▸ cd_tuple) call_tuple_of rfl t.n_tuple (by decide +kernel) (da_cons (d_addA hK (d_var (pv 1)) (d_lst (da_cons (d_sub (d_addA hK d_int (d_call (ok__law_draw t) hK (room.mono (by decide)) rfl t.m__law_draw t.F__law_draw.kp (b__law_draw t) (da_cons (d_var (pv 0)) (da_cons d_int da_nil)))) (d_callB (hK ▸ cd_sum) (cr_sumA rfl) rfl t.n_sum (by decide +kernel) (da_cons (d_var (pv 1)) da_nil))) da_nil))) da_nil)) (da_cons (d_call (ok__law_draw t) hK (room.mono (by decide)) rfl t.m__law_draw t.F__law_draw.kp (b__law_draw t) (da_cons (d_var (pv 0)) (da_cons d_int da_nil))) da_nil)))
    (ds_cons (ds_set (i := 4) sc.nd rfl (by first | exact Or.inl rfl | exact Or.inr rfl) (d_mod (d_callTy cd_int call_int1 rfl t.n_int (by decide +kernel) (da_cons (d_addA hK (d_addA hK (d_var (pv 2)) d_int) (d_call (ok__law_draw t) hK (room.mono (by decide)) rfl t.m__law_draw t.F__law_draw.kp (b__law_draw t) (da_cons (d_var (pv 0)) (da_cons d_int da_nil)))) da_nil)) d_int))
    (ds_one (ds_ret (d_tup (da_cons (d_var (pv 3)) (da_cons (d_callB cd_min2 (call_min2 rfl) rfl t.n_min (by decide +kernel) (da_cons (d_var (pv 2)) (da_cons (d_var (pv 4)) da_nil))) (da_cons (d_callB cd_max2 (call_max2 rfl) rfl t.n_max (by decide +kernel) (da_cons (d_var (pv 2)) (da_cons (d_var (pv 4)) da_nil))) da_nil)))))))))
def T__law_near : TDS := (dSeq (dAsg (dCall 2 tf__law_pick (dCons (dVar 0) (dCons (dCall 1 tf__law_corners (dCons (dVar 1) dNil)) dNil))) (dgName 2))
    (dSeq (dForR (dCons (dCall 2 tf__law_pick (dCons (dVar 0) (dCons (dLst (dCons (dC (.int 0)) (dCons (dC (.int 1)) (dCons (dC (.int 2)) (dCons (dC (.int 4)) (dCons (dC (.int 1)) (dCons (dC (.int 3)) dNil))))))) dNil))) dNil) (dgName 3)
    (dAsg (dCall 3 tf__law_up (dCons (dVar 2) (dCons (dCall 2 tf_draw (dCons (dVar 0) (dCons (dC (.int 5)) dNil))) (dCons (dBin gSub (dC (.int 1)) (dBin gMulA (dC (.int 2)) (dCall 2 tf_draw (dCons (dVar 0) (dCons (dC (.int 2)) dNil))))) dNil)))) (dgName 2)))
    (dSeq (dAsg (dCall 2 tf_draw (dCons (dVar 0) (dCons (dC (.int 5)) dNil))) (dgName 4))
    (dSeq (dAsg (dBin gMod (dCB gInt (dCons (dBin gAddA (dBin gAddA (dVar 4) (dC (.int 1))) (dCall 2 tf_draw (dCons (dVar 0) (dCons (dC (.int 4)) dNil)))) dNil)) (dC (.int 5))) (dgName 5))
    (dRet (dTup (dCons (dCall 3 tf__law_up (dCons (dVar 2) (dCons (dCall 2 tf_draw (dCons (dVar 0) (dCons (dC (.int 5)) dNil))) (dCons (dBin gSub (dBin gAddA (dC (.int 1)) (dCall 2 tf_draw (dCons (dVar 0) (dCons (dC (.int 2)) dNil)))) (dCB gSum (dCons (dVar 2) dNil))) dNil)))) (dCons (dCB gMin2 (dCons (dVar 4) (dCons (dVar 5) dNil))) (dCons (dCB gMax2 (dCons (dVar 4) (dCons (dVar 5) dNil))) dNil)))))))))
def tf__law_near : TF := fun _ ds Q => tfOf 6 T__law_near (fun _ => False) ds Q
theorem ok__law_near (t : Tx K mg) : FnG P w K mg base CX0 3 t.a__law_near t.d__law_near ["_law_deck_here", "_law_tile"] (spD K 2 tf__law_near) := by
  have sc := sc__law_near
  exact fng_data (N := ["_law_deck_here", "_law_tile", "_law_k", "_law_turn", "_law_j", "_law_s"]) (T := T__law_near) t.F__law_near sc fun cdv A outer s H E F hK hF room =>
    (ds_cons (ds_set (i := 2) sc.nd rfl (by first | exact Or.inl rfl | exact Or.inr rfl) (d_call (ok__law_pick t) hK (room.mono (by decide)) rfl t.m__law_pick t.F__law_pick.kp (b__law_pick t) (da_cons (d_var (pv 0)) (da_cons (d_call (ok__law_corners t) hK (room.mono (by decide)) rfl t.m__law_corners t.F__law_corners.kp (b__law_corners t) (da_cons (d_var (pv 1)) da_nil)) da_nil))))
    (ds_cons (ds_forR1 PassesOwn.never rfl rfl t.n_range (da_cons (d_call (ok__law_pick t) hK (room.mono (by decide)) rfl t.m__law_pick t.F__law_pick.kp (b__law_pick t) (da_cons (d_var (pv 0)) (da_cons (d_lst (da_cons d_int (da_cons d_int (da_cons d_int (da_cons d_int (da_cons d_int (da_cons d_int da_nil))))))) da_nil))) da_nil) (dg_name (pg_name (i := 3) sc.nd rfl (by first | exact Or.inl rfl | exact Or.inr rfl)))
    (ds_one (ds_set (i := 2) sc.nd rfl (by first | exact Or.inl rfl | exact Or.inr rfl) (d_call (ok__law_up t) hK (room.mono (by decide)) rfl t.m__law_up t.F__law_up.kp (b__law_up t) (da_cons (d_var (pv 2)) (da_cons (d_call (ok__law_draw t) hK (room.mono (by decide)) rfl t.m__law_draw t.F__law_draw.kp (b__law_draw t) (da_cons (d_var (pv 0)) (da_cons d_int da_nil))) (da_cons (d_sub d_int (d_mulA d_int (d_call (ok__law_draw t) hK (room.mono (by decide)) rfl t.m__law_draw t.F__law_draw.kp (b__law_draw t) (da_cons (d_var (pv 0)) (da_cons d_int da_nil))))) da_nil)))))))
    (ds_cons (ds_set (i := 4) sc.nd rfl (by first | exact Or.inl rfl | exact Or.inr rfl) (d_call (ok__law_draw t) hK (room.mono (by decide)) rfl t.m__law_draw t.F__law_draw.kp (b__law_draw t) (da_cons (d_var (pv 0)) (da_cons d_int da_nil))))
    (ds_cons (ds_set (i := 5) sc.nd rfl (by first | exact Or.inl rfl | exact Or.inr rfl) (d_mod (d_callTy cd_int call_int1 rfl t.n_int (by decide +kernel) (da_cons (d_addA hK (d_addA hK (d_var (pv 4)) d_int) (d_call (ok__law_draw t) hK (room.mono (by decide)) rfl t.m__law_draw t.F__law_draw.kp (b__law_draw t) (da_cons (d_var (pv 0)) (da_cons d_int da_nil)))) da_nil)) d_int))
    (ds_one (ds_ret (d_tup (da_cons (d_call (ok__law_up t) hK (room.mono (by decide)) rfl t.m__law_up t.F__law_up.kp (b__law_up t) (da_cons (d_var (pv 2)) (da_cons (d_call (ok__law_draw t) hK (room.mono (by decide)) rfl t.m__law_draw t.F__law_draw.kp (b__law_draw t) (da_cons (d_var (pv 0)) (da_cons d_int da_nil))) (da_cons (d_sub (d_addA hK d_int (d_call (ok__law_draw t) hK (room.mono (by decide)) rfl t.m__law_draw t.F__law_draw.kp (b__law_draw t) (da_cons (d_var (pv 0)) (da_cons d_int da_nil)))) (d_callB (hK ▸ cd_sum) (cr_sumA rfl) rfl t.n_sum (by decide +kernel) (da_cons (d_var (pv 2)) da_nil))) da_nil)))) (da_cons (d_callB cd_min2 (call_min2 rfl) rfl t.n_min (by decide +kernel) (da_cons (d_var (pv 4)) (da_cons (d_var (pv 5)) da_nil))) (da_cons (d_callB cd_max2 (call_max2 rfl) rfl t.n_max (by decide +kernel) (da_cons (d_var (pv 4)) (da_cons (d_var (pv 5)) da_nil))) da_nil))))))))))
def T__law_bad (Th : TDE) : TDS := (dSeq (dAsg (dC .non) (dgName 1))
    (dSeq (dTryN [⟨mm_BadTile, some 2, fun a y => (dAsg (dTup (dCons (dC (.str "BadTile")) (dCons (dXf a y 2 "thing") dNil))) (dgName 1))⟩]
    (dAsg (dTup (dCons (dC (.str "returned")) (dCons Th dNil))) (dgName 1)))
    (dRet (dVar 1))))
theorem told__law_bad (t : Tx K mg) (cdv : Value) (A : Around) (outer : List Env) (s : Shared) (H : Hp) (F2 : FP) (Th : TDE) (hK : F2.K = K) (hF : F2.ex = fun _ _ => False)
    (hole : ∀ (W : WX) (pn : List (Addr × Obj)) (xe : Value → Shared → Prop) (F' : FP) (p1 p2 : Pos), Takes ((cxOf CX0 P w K mg base ["_law_call", "_law_told", "_law_e"] "_law_bad" (defScope s__law_bad) t.a__law_bad cdv A outer s H E0).tr pn xe) W → Sub F2 F' → WOk F' W →
      PE ((cxOf CX0 P w K mg base ["_law_call", "_law_told", "_law_e"] "_law_bad" (defScope s__law_bad) t.a__law_bad cdv A outer s H E0).tr pn xe) (.Call (.Name "_law_call" p1) [] [] p2) (tD F' Th)) :
    PSs (cxOf CX0 P w K mg base ["_law_call", "_law_told", "_law_e"] "_law_bad" (defScope s__law_bad) t.a__law_bad cdv A outer s H E0).nox (defBody s__law_bad) (sD F2 (T__law_bad Th)) := by
  have sc := sc__law_bad
  exact (ds_cons (ds_set (i := 1) sc.nd rfl (by first | exact Or.inl rfl | exact Or.inr rfl) d_non)
    (ds_cons (ds_tryN hK rfl rfl sc.nd takes_none5 (wok_none hF) (fun W pn xe F' tk' po' sub' wo' => have hK := sub'.k.trans hK
    (ds_one (ds_set (i := 1) sc.nd rfl (by first | exact Or.inl rfl | exact Or.inr rfl) (d_tup (da_cons d_str (da_cons (hole W pn xe F' _ _ tk' sub' wo') da_nil))))))
    (.named (i := 2) (cl := ⟨mm_BadTile, some 2, fun a y => (dAsg (dTup (dCons (dC (.str "BadTile")) (dCons (dXf a y 2 "thing") dNil))) (dgName 1))⟩) rfl rfl ⟨rfl, by decide, .inl t.R_BadTile.2⟩ rfl (hm_BadTile t) (fun a oe cls d pn y F' hz hv S => have hKo := hK; have hK := S.k.trans hK; (ds_one (ds_set (i := 1) sc.nd rfl (by first | exact Or.inl rfl | exact Or.inr rfl) (d_tup (da_cons d_str (da_cons (d_xf hKo S hz hv (xf_BadTile t S.m) (pv 2)) da_nil))))))
    .nil))
    (ds_one (ds_ret (d_var (pv 1))))))
def T__law_is_parted : TDS := (dSeq (dAsg (dLc (dCall 1 tf__law_corners (dCons (dVar 0) dNil)) 3 dYes (dCallX 1 tf_point_of (dCons (dVar 3) dNil))) (dgName 2))
    (dSeq (dAsg (dLc (dCall 1 tf__law_corners (dCons (dVar 1) dNil)) 3 dYes (dCallX 1 tf_point_of (dCons (dVar 3) dNil))) (dgName 4))
    (dSeq (dForT (dBin gAddA (dSl (dVar 0) (dPart (dC (.int 1))) dNoPart) (dSl (dVar 1) (dPart (dC (.int 1))) dNoPart)) (dgName 5)
    (dSeq (dOwn (lLst dNil) 6)
    (dSeq (dForV 2 (dgName 7)
    (dForV 4 (dgName 8)
    (dApp 6 (dCallX 1 tf_sign (dCons (dCallX 2 tf_minus (dCons (dCallX 2 tf_minus (dCons (dBin gIx (dVar 7) (dBin gSub (dVar 5) (dC (.int 4)))) (dCons (dBin gIx (dVar 7) (dBin gSub (dVar 5) (dC (.int 1)))) dNil))) (dCons (dCallX 2 tf_minus (dCons (dBin gIx (dVar 8) (dBin gSub (dVar 5) (dC (.int 4)))) (dCons (dBin gIx (dVar 8) (dBin gSub (dVar 5) (dC (.int 1)))) dNil))) dNil))) dNil)))))
    (dFreeze 6 (dIfS (dtOr (dTest (dBin gGe (dCB (gExtL false) (dCons (dVar 6) dNil)) (dC (.int 0)))) (dTest (dBin gLe (dCB (gExtL true) (dCons (dVar 6) dNil)) (dC (.int 0)))))
    (dRet (dC (.bl true)))
    dNext)))))
    (dRet (dC (.bl false))))))
def tf__law_is_parted : TF := fun _ ds Q => tfOf 9 T__law_is_parted (fun _ => False) ds Q
theorem ok__law_is_parted (t : Tx K mg) : FnG P w K mg base CX0 6 t.a__law_is_parted t.d__law_is_parted ["_law_one", "_law_other"] (spD K 2 tf__law_is_parted) := by
  have sc := sc__law_is_parted
  exact fng_data (N := ["_law_one", "_law_other", "_law_near_here", "_law_k", "_law_far", "_law_d", "_law_ends", "_law_c", "_law_e"]) (T := T__law_is_parted) t.F__law_is_parted sc fun cdv A outer s H E F hK hF room =>
    (ds_cons (ds_setLcL hK rfl sc.nd (d_call (ok__law_corners t) hK (room.mono (by decide)) rfl t.m__law_corners t.F__law_corners.kp (b__law_corners t) (da_cons (d_var (pv 0)) da_nil)) (blkOk_by (own := [("_law_k", 3)]) (N := ["_law_one", "_law_other", "_law_near_here", "_law_k", "_law_far", "_law_d", "_law_ends", "_law_c", "_law_e"]) (sc := defScope s__law_is_parted) (by decide +kernel)) rfl (i := 2) rfl rfl (sw_true rfl rfl rfl (by decide +kernel)) (fun _ _ _ _ _ => pg_name (i := 3) sc.nd rfl (Or.inl rfl)) (fun _ _ _ _ _ => dts_nil) (fun _ _ _ _ _ => (d_callX (ok_point_of t) takes_none5 (wok_none rfl) hK (room.mono (by decide)) rfl t.m_point_of t.F_point_of.kp (b_point_of t) (da_cons (d_var (pv 3)) da_nil))))
    (ds_cons (ds_setLcL hK rfl sc.nd (d_call (ok__law_corners t) hK (room.mono (by decide)) rfl t.m__law_corners t.F__law_corners.kp (b__law_corners t) (da_cons (d_var (pv 1)) da_nil)) (blkOk_by (own := [("_law_k", 3)]) (N := ["_law_one", "_law_other", "_law_near_here", "_law_k", "_law_far", "_law_d", "_law_ends", "_law_c", "_law_e"]) (sc := defScope s__law_is_parted) (by decide +kernel)) rfl (i := 4) rfl rfl (sw_true rfl rfl rfl (by decide +kernel)) (fun _ _ _ _ _ => pg_name (i := 3) sc.nd rfl (Or.inl rfl)) (fun _ _ _ _ _ => dts_nil) (fun _ _ _ _ _ => (d_callX (ok_point_of t) takes_none5 (wok_none rfl) hK (room.mono (by decide)) rfl t.m_point_of t.F_point_of.kp (b_point_of t) (da_cons (d_var (pv 3)) da_nil))))
    (ds_cons (ds_forT hK PassesOwn.never rfl (d_addA hK (d_slice hK (d_var (pv 0)) (do_some d_int) do_none) (d_slice hK (d_var (pv 1)) (do_some d_int) do_none)) (dg_name (pg_name (i := 5) sc.nd rfl (by first | exact Or.inl rfl | exact Or.inr rfl)))
    (ds_cons (ds_own (i := 6) sc.nd rfl (by first | exact Or.inl rfl | exact Or.inr rfl) (l_lst da_nil))
    (ds_cons (ds_forV hK PassesOwn.never rfl (pv 2) (dg_name (pg_name (i := 7) sc.nd rfl (by first | exact Or.inl rfl | exact Or.inr rfl)))
    (ds_one (ds_forV hK PassesOwn.never rfl (pv 4) (dg_name (pg_name (i := 8) sc.nd rfl (by first | exact Or.inl rfl | exact Or.inr rfl)))
    (ds_one (ds_app hK (pv 6) (d_callX (ok_sign t) takes_none5 (wok_none hF) hK (room.mono (by decide)) rfl t.m_sign t.F_sign.kp (b_sign t) (da_cons (d_callX (ok_minus t) takes_none5 (wok_none hF) hK (room.mono (by decide)) rfl t.m_minus t.F_minus.kp (b_minus t) (da_cons (d_callX (ok_minus t) takes_none5 (wok_none hF) hK (room.mono (by decide)) rfl t.m_minus t.F_minus.kp (b_minus t) (da_cons (d_ix hK (d_var (pv 7)) (d_sub (d_var (pv 5)) d_int) (fun _ _ => rfl)) (da_cons (d_ix hK (d_var (pv 7)) (d_sub (d_var (pv 5)) d_int) (fun _ _ => rfl)) da_nil))) (da_cons (d_callX (ok_minus t) takes_none5 (wok_none hF) hK (room.mono (by decide)) rfl t.m_minus t.F_minus.kp (b_minus t) (da_cons (d_ix hK (d_var (pv 8)) (d_sub (d_var (pv 5)) d_int) (fun _ _ => rfl)) (da_cons (d_ix hK (d_var (pv 8)) (d_sub (d_var (pv 5)) d_int) (fun _ _ => rfl)) da_nil))) da_nil))) da_nil)))))))
    (dss_freeze (i := 6) (ds_one (ds_if (PW.pt (dw_or (dt_ge (d_callB (hK ▸ cd_minL) (cr_min rfl) rfl t.n_min (by decide +kernel) (da_cons (d_var (pv 6)) da_nil)) d_int) (dw_or1 (dt_le (d_callB (hK ▸ cd_maxL) (cr_max rfl) rfl t.n_max (by decide +kernel) (da_cons (d_var (pv 6)) da_nil)) d_int))))
    (ds_one (ds_ret d_bl))
    ds_nil))))))
    (ds_one (ds_ret d_bl)))))
theorem kb_do_overlap_other_one (t : Tx K mg) : KB t.d_do_overlap ["one", "other"] ["other", "one"] [1, 0] := kb_of t.F_do_overlap fun _ _ _ _ _ _ ws hl => match ws, hl with | [_, _], _ => rfl
theorem kb_does_fit_other_one (t : Tx K mg) : KB t.d_does_fit ["one", "other"] ["other", "one"] [1, 0] := kb_of t.F_does_fit fun _ _ _ _ _ _ ws hl => match ws, hl with | [_, _], _ => rfl
def T__law_is_pair_right : TDS := (dSeq (dAsg (dTup (dCons (dCall 2 tf__law_do_overlap (dCons (dVar 1) (dCons (dVar 2) dNil))) (dCons (dBin gEq (dCall 2 tf__law_meeting (dCons (dVar 1) (dCons (dVar 2) dNil))) (dC (.int 1))) dNil))) (dgName 3))
    (dSeq (dOwn (lLst (dCons (dTup (dCons (dCallX 2 tf_do_overlap (dCons (dVar 1) (dCons (dVar 2) dNil))) (dCons (dCallX 2 tf_does_fit (dCons (dVar 1) (dCons (dVar 2) dNil))) dNil))) dNil)) 4)
    (dSeq (dApp 4 (dTup (dCons (dCallKX 2 2 [1, 0] tf_do_overlap (dCons (dVar 1) (dCons (dVar 2) dNil))) (dCons (dCallKX 2 2 [1, 0] tf_does_fit (dCons (dVar 1) (dCons (dVar 2) dNil))) dNil))))
    (dFreeze 4 (dSeq (dIfS (dtOr (dTest (dBin gNe (dCB gReprR (dCons (dVar 4) dNil)) (dCB gReprR (dCons (dBin gMulA (dLst (dCons (dVar 3) dNil)) (dC (.int 2))) dNil)))) (dTest (dBin gEq (dVar 3) (dTup (dCons (dC (.bl true)) (dCons (dC (.bl true)) dNil))))))
    (dRet (dC (.bl false)))
    dNext)
    (dRet (dOr (dBin gGt (dCall 2 tf_draw (dCons (dVar 0) (dCons (dC (.int 8)) dNil))) (dC (.int 0))) (dBin gNe (dCall 2 tf__law_is_parted (dCons (dVar 1) (dCons (dVar 2) dNil))) (dBin gIx (dVar 3) (dC (.int 0)))))))))))
def tf__law_is_pair_right : TF := fun _ ds Q => tfOf 5 T__law_is_pair_right (fun _ => False) ds Q
theorem ok__law_is_pair_right (t : Tx K mg) : FnG P w K mg base CX0 10 t.a__law_is_pair_right t.d__law_is_pair_right ["_law_deck_here", "_law_near_here", "_law_far"] (spD K 3 tf__law_is_pair_right) := by
  have sc := sc__law_is_pair_right
  exact fng_data (N := ["_law_deck_here", "_law_near_here", "_law_far", "_law_due", "_law_told"]) (T := T__law_is_pair_right) t.F__law_is_pair_right sc fun cdv A outer s H E F hK hF room =>
    (ds_cons (ds_set (i := 3) sc.nd rfl (by first | exact Or.inl rfl | exact Or.inr rfl) (d_tup (da_cons (d_call (ok__law_do_overlap t) hK (room.mono (by decide)) rfl t.m__law_do_overlap t.F__law_do_overlap.kp (b__law_do_overlap t) (da_cons (d_var (pv 1)) (da_cons (d_var (pv 2)) da_nil))) (da_cons (d_eq hK room.r.units (d_call (ok__law_meeting t) hK (room.mono (by decide)) rfl t.m__law_meeting t.F__law_meeting.kp (b__law_meeting t) (da_cons (d_var (pv 1)) (da_cons (d_var (pv 2)) da_nil))) d_int) da_nil))))
    (ds_cons (ds_own (i := 4) sc.nd rfl (by first | exact Or.inl rfl | exact Or.inr rfl) (l_lst (da_cons (d_tup (da_cons (d_callX (ok_do_overlap t) takes_none5 (wok_none hF) hK (room.mono (by decide)) rfl t.m_do_overlap t.F_do_overlap.kp (b_do_overlap t) (da_cons (d_var (pv 1)) (da_cons (d_var (pv 2)) da_nil))) (da_cons (d_callX (ok_does_fit t) takes_none5 (wok_none hF) hK (room.mono (by decide)) rfl t.m_does_fit t.F_does_fit.kp (b_does_fit t) (da_cons (d_var (pv 1)) (da_cons (d_var (pv 2)) da_nil))) da_nil))) da_nil)))
    (ds_cons (ds_app hK (pv 4) (d_tup (da_cons (d_callKX (ok_do_overlap t) takes_none5 (wok_none hF) hK (room.mono (by decide)) rfl t.m_do_overlap t.F_do_overlap.kp (kb_do_overlap_other_one t) (dk_cons (d_var (pv 1)) (dk_cons (d_var (pv 2)) dk_nil))) (da_cons (d_callKX (ok_does_fit t) takes_none5 (wok_none hF) hK (room.mono (by decide)) rfl t.m_does_fit t.F_does_fit.kp (kb_does_fit_other_one t) (dk_cons (d_var (pv 1)) (dk_cons (d_var (pv 2)) dk_nil))) da_nil))))
    (dss_freeze (i := 4) (ds_cons (ds_if (PW.pt (dw_or (dt_ne hK room.r.units (d_reprR hK t.sm room.g (units80 room.r) rfl t.n_repr (da_cons (d_var (pv 4)) da_nil)) (d_reprR hK t.sm room.g (units80 room.r) rfl t.n_repr (da_cons (d_mulA (d_lst (da_cons (d_var (pv 3)) da_nil)) d_int) da_nil))) (dw_or1 (dt_eq hK room.r.units (d_var (pv 3)) (d_tup (da_cons d_bl (da_cons d_bl da_nil)))))))
    (ds_one (ds_ret d_bl))
    ds_nil)
    (ds_one (ds_ret (d_or (d_gt (d_call (ok__law_draw t) hK (room.mono (by decide)) rfl t.m__law_draw t.F__law_draw.kp (b__law_draw t) (da_cons (d_var (pv 0)) (da_cons d_int da_nil))) d_int) (d_one (d_ne hK room.r.units (d_call (ok__law_is_parted t) hK (room.mono (by decide)) rfl t.m__law_is_parted t.F__law_is_parted.kp (b__law_is_parted t) (da_cons (d_var (pv 1)) (da_cons (d_var (pv 2)) da_nil))) (d_ix hK (d_var (pv 3)) d_int (fun _ _ => rfl))))))))))))
def T__law_is_refusal_right : TDS := (dSeq (dAsg (dIf (dTest (dBin gGt (dCall 2 tf_draw (dCons (dVar 0) (dCons (dC (.int 3)) dNil))) (dC (.int 0)))) (dCall 2 tf__law_bent_tile (dCons (dVar 0) (dCons (dVar 1) dNil))) (dVar 1)) (dgName 3))
    (dSeq (dAsg (dIf (dTest (dBin gGt (dCall 2 tf_draw (dCons (dVar 0) (dCons (dC (.int 3)) dNil))) (dC (.int 0)))) (dCall 2 tf__law_bent_tile (dCons (dVar 0) (dCons (dVar 2) dNil))) (dVar 2)) (dgName 4))
    (dSeq (dPar 5 6 (dCons (dLcT (dTup (dCons (dVar 3) (dCons (dVar 4) dNil))) 7 (dtNot (dTest (dCall 1 tf__law_is_tile (dCons (dVar 7) dNil)))) (dVar 7)) (dCons (dCB gReprR (dCons (dTup (dCons (dVar 3) (dCons (dVar 4) dNil))) dNil)) dNil)))
    (dSeq (dAsg (dLam 3 T__law_bad (dCallX 2 tf_do_overlap (dCons (dVar 3) (dCons (dVar 4) dNil)))) (dgName 8))
    (dSeq (dAsg (dIf (dTest (dBin gNeL (dVar 5) (dLst dNil))) (dTup (dCons (dC (.str "BadTile")) (dCons (dBin gIx (dVar 5) (dC (.int 0))) dNil))) (dTup (dCons (dC (.str "returned")) (dCons (dCall 2 tf__law_do_overlap (dCons (dVar 3) (dCons (dVar 4) dNil))) dNil)))) (dgName 9))
    (dRet (dAnd (dBin gEq (dCB gReprR (dCons (dVar 8) dNil)) (dCB gReprR (dCons (dVar 9) dNil))) (dBin gEq (dCB gReprR (dCons (dTup (dCons (dVar 3) (dCons (dVar 4) dNil))) dNil)) (dVar 6)))))))))
def tf__law_is_refusal_right : TF := fun _ ds Q => tfOf 10 T__law_is_refusal_right (fun _ => False) ds Q
theorem ok__law_is_refusal_right (t : Tx K mg) (tb : TBs K mg base TN) : FnG P w K mg base CX0 10 t.a__law_is_refusal_right t.d__law_is_refusal_right ["_law_deck_here", "_law_near_here", "_law_far"] (spD K 3 tf__law_is_refusal_right) := by
  have sc := sc__law_is_refusal_right
  exact fng_dataC (n := "_law_is_refusal_right") (N := ["_law_deck_here", "_law_near_here", "_law_far", "_law_one", "_law_other", "_law_some", "_law_was", "_law_it", "_law_told", "_law_due"]) (T := T__law_is_refusal_right) t.F__law_is_refusal_right sc t.E__law_is_refusal_right fun cdv A outer s H E F hK hF room hcd =>
    (ds_cons (ds_set (i := 3) sc.nd rfl (by first | exact Or.inl rfl | exact Or.inr rfl) (d_if (dt_gt (d_call (ok__law_draw t) hK (room.mono (by decide)) rfl t.m__law_draw t.F__law_draw.kp (b__law_draw t) (da_cons (d_var (pv 0)) (da_cons d_int da_nil))) d_int) (d_call (ok__law_bent_tile t) hK (room.mono (by decide)) rfl t.m__law_bent_tile t.F__law_bent_tile.kp (b__law_bent_tile t) (da_cons (d_var (pv 0)) (da_cons (d_var (pv 1)) da_nil))) (d_var (pv 1))))
    (ds_cons (ds_set (i := 4) sc.nd rfl (by first | exact Or.inl rfl | exact Or.inr rfl) (d_if (dt_gt (d_call (ok__law_draw t) hK (room.mono (by decide)) rfl t.m__law_draw t.F__law_draw.kp (b__law_draw t) (da_cons (d_var (pv 0)) (da_cons d_int da_nil))) d_int) (d_call (ok__law_bent_tile t) hK (room.mono (by decide)) rfl t.m__law_bent_tile t.F__law_bent_tile.kp (b__law_bent_tile t) (da_cons (d_var (pv 0)) (da_cons (d_var (pv 2)) da_nil))) (d_var (pv 2))))
    (ds_cons (ds_par (i := 5) (j := 6) rfl sc.nd rfl rfl (by decide) rfl rfl (da_cons (d_lcT hK rfl sc.nd (d_tup (da_cons (d_var (pv 3)) (da_cons (d_var (pv 4)) da_nil))) (blkOk_by (own := [("_law_it", 7)]) (N := ["_law_deck_here", "_law_near_here", "_law_far", "_law_one", "_law_other", "_law_some", "_law_was", "_law_it", "_law_told", "_law_due"]) (sc := defScope s__law_is_refusal_right) (by decide +kernel)) rfl (fun _ _ _ _ _ => pg_name (i := 7) sc.nd rfl (Or.inl rfl)) (fun _ _ _ _ _ => (dts_one (dt_not (dt_val (d_call (ok__law_is_tile t) hK (room.mono (by decide)) rfl t.m__law_is_tile t.F__law_is_tile.kp (b__law_is_tile t) (da_cons (d_var (pv 7)) da_nil)))))) (fun _ _ _ _ _ => (d_var (pv 7)))) (da_cons (d_reprR hK t.sm room.g (units80 room.r) rfl t.n_repr (da_cons (d_tup (da_cons (d_var (pv 3)) (da_cons (d_var (pv 4)) da_nil))) da_nil)) da_nil)))
    (ds_cons (ds_set (i := 8) sc.nd rfl (by first | exact Or.inl rfl | exact Or.inr rfl) (d_lam (k := 7) hK (by rfl) t.m__law_bad t.F__law_bad.kp t.F__law_bad (b__law_bad t) sc__law_bad rfl (.inl rfl) (fun cdv s H F2 Th hK hF room hole => told__law_bad t cdv _ _ s H F2 Th hK hF hole) (tb "_law_is_refusal_right" (by decide)) hcd t.T__law_is_refusal_right.mem t.T__law_is_refusal_right.uni (room.mono (by decide)) (LamX.lamS_by (sc := defScope s__law_is_refusal_right) (by decide +kernel)) (by rfl) (fun _ _ _ _ _ => rfl)
      (fun A outer s H E f c' F' hK wo' room => (d_callX (ok_do_overlap t) takes_lam wo' hK (room.mono (by decide)) rfl t.m_do_overlap t.F_do_overlap.kp (b_do_overlap t) (da_cons (d_var (pv 3)) (da_cons (d_var (pv 4)) da_nil))))))
    (ds_cons (ds_set (i := 9) sc.nd rfl (by first | exact Or.inl rfl | exact Or.inr rfl) (d_if (dt_neL hK room.r.units (d_var (pv 5)) (d_lst da_nil)) (d_tup (da_cons d_str (da_cons (d_ix hK (d_var (pv 5)) d_int (fun _ _ => rfl)) da_nil))) (d_tup (da_cons d_str (da_cons (d_call (ok__law_do_overlap t) hK (room.mono (by decide)) rfl t.m__law_do_overlap t.F__law_do_overlap.kp (b__law_do_overlap t) (da_cons (d_var (pv 3)) (da_cons (d_var (pv 4)) da_nil))) da_nil)))))
    (ds_one (ds_ret (d_and (d_eq hK room.r.units (d_reprR hK t.sm room.g (units80 room.r) rfl t.n_repr (da_cons (d_var (pv 8)) da_nil)) (d_reprR hK t.sm room.g (units80 room.r) rfl t.n_repr (da_cons (d_var (pv 9)) da_nil))) (d_one (d_eq hK room.r.units (d_reprR hK t.sm room.g (units80 room.r) rfl t.n_repr (da_cons (d_tup (da_cons (d_var (pv 3)) (da_cons (d_var (pv 4)) da_nil))) da_nil)) (d_var (pv 6))))))))))))
def T_law : TDS := (dSeq (dAsg (dCall 1 tf__law_any_tile (dCons (dVar 1) dNil)) (dgName 2))
    (dSeq (dIfS (dTest (dBin gNe (dCB gReprR (dCons (dTup (dCons (dCallX 2 tf_do_overlap (dCons (dVar 2) (dCons (dVar 2) dNil))) (dCons (dCallX 2 tf_does_fit (dCons (dVar 2) (dCons (dVar 2) dNil))) dNil))) dNil)) (dC (.str "(True, False)"))))
    (dRet (dC (.bl false)))
    dNext)
    (dSeq (dForR (dCons (dCall 2 tf__law_pick (dCons (dVar 1) (dCons (dLst (dCons (dC (.int 6)) (dCons (dC (.int 4)) (dCons (dC (.int 9)) dNil)))) dNil))) dNil) (dgName 3)
    (dSeq (dAsg (dIf (dTest (dBin gGt (dCall 2 tf_draw (dCons (dVar 1) (dCons (dC (.int 8)) dNil))) (dC (.int 0)))) (dCall 2 tf__law_near (dCons (dVar 1) (dCons (dVar 2) dNil))) (dCall 1 tf__law_any_tile (dCons (dVar 1) dNil))) (dgName 4))
    (dSeq (dIfS (dtOr (dtNot (dTest (dCall 3 tf__law_is_pair_right (dCons (dVar 1) (dCons (dVar 2) (dCons (dVar 4) dNil)))))) (dtNot (dTest (dCall 3 tf__law_is_refusal_right (dCons (dVar 1) (dCons (dVar 2) (dCons (dVar 4) dNil)))))))
    (dRet (dC (.bl false)))
    dNext)
    (dAsg (dCall 2 tf__law_pick (dCons (dVar 1) (dCons (dLst (dCons (dVar 2) (dCons (dVar 4) dNil))) dNil))) (dgName 2)))))
    (dSeq (dAsg (dCall 2 tf__law_pick (dCons (dVar 1) (dCons (dCall 1 tf__law_marked (dCons (dVar 2) dNil)) dNil))) (dgTup 3 (dgCons (dgName 5) (dgCons (dgName 6) (dgCons (dgName 7) dgNil)))))
    (dSeq (dFor (dBin gAddA (dCall 2 tf__law_choices (dCons (dVar 5) (dCons (dNot (dVar 7)) dNil))) (dCall 2 tf__law_choices (dCons (dVar 5) (dCons (dVar 7) dNil)))) (dgName 4)
    (dIfS (dtNot (dTest (dCall 3 tf__law_is_pair_right (dCons (dVar 1) (dCons (dVar 2) (dCons (dVar 4) dNil))))))
    (dRet (dC (.bl false)))
    dNext))
    (dRet (dC (.bl true))))))))
theorem ok_law (t : Tx K mg) (tb : TBs K mg base TN) : FnG P w K mg base CX0 11 t.a_law t.d_law ["_law_script"] (spLaw K 6 T_law) := by
  have sc := sc_law
  refine fng_of (N := ["_law_script", "_law_deck_here", "_law_near_here", "_law_turn", "_law_far", "_law_edge", "_law_mark", "_law_on_left"]) t.F_law sc ?_ ?_
  · rintro vs H Q E ⟨a, ns, rfl, _⟩
    rfl
  rintro cdv A outer s H vs Q E room ⟨a, ns, rfl, hS, hlen, hTb, hT, hQ⟩
  have rest : ∀ F : FP, (F.K = K ∧ F.ex = fun _ _ => False) → PSs (cxOf CX0 P w K mg base ["_law_script", "_law_deck_here", "_law_near_here", "_law_turn", "_law_far", "_law_edge", "_law_mark", "_law_on_left"] "law" (defScope s_law) t.a_law cdv A outer s H E).nox (defBody s_law).tail (sD F T_law) := fun F ⟨hK, hF⟩ =>
    (ds_cons (ds_set (i := 2) sc.nd rfl (by first | exact Or.inl rfl | exact Or.inr rfl) (d_call (ok__law_any_tile t) hK (room.mono (by decide)) rfl t.m__law_any_tile t.F__law_any_tile.kp (b__law_any_tile t) (da_cons (d_var (pv 1)) da_nil)))
    (ds_cons (ds_if (dt_ne hK room.r.units (d_reprR hK t.sm room.g (units80 room.r) rfl t.n_repr (da_cons (d_tup (da_cons (d_callX (ok_do_overlap t) takes_none5 (wok_none hF) hK (room.mono (by decide)) rfl t.m_do_overlap t.F_do_overlap.kp (b_do_overlap t) (da_cons (d_var (pv 2)) (da_cons (d_var (pv 2)) da_nil))) (da_cons (d_callX (ok_does_fit t) takes_none5 (wok_none hF) hK (room.mono (by decide)) rfl t.m_does_fit t.F_does_fit.kp (b_does_fit t) (da_cons (d_var (pv 2)) (da_cons (d_var (pv 2)) da_nil))) da_nil))) da_nil)) d_str)
    (ds_one (ds_ret d_bl))
    ds_nil)
    (ds_cons (ds_forR1 PassesOwn.never rfl rfl t.n_range (da_cons (d_call (ok__law_pick t) hK (room.mono (by decide)) rfl t.m__law_pick t.F__law_pick.kp (b__law_pick t) (da_cons (d_var (pv 1)) (da_cons (d_lst (da_cons d_int (da_cons d_int (da_cons d_int da_nil)))) da_nil))) da_nil) (dg_name (pg_name (i := 3) sc.nd rfl (by first | exact Or.inl rfl | exact Or.inr rfl)))
    (ds_cons (ds_set (i := 4) sc.nd rfl (by first | exact Or.inl rfl | exact Or.inr rfl) (d_if (dt_gt (d_call (ok__law_draw t) hK (room.mono (by decide)) rfl t.m__law_draw t.F__law_draw.kp (b__law_draw t) (da_cons (d_var (pv 1)) (da_cons d_int da_nil))) d_int) (d_call (ok__law_near t) hK (room.mono (by decide)) rfl t.m__law_near t.F__law_near.kp (b__law_near t) (da_cons (d_var (pv 1)) (da_cons (d_var (pv 2)) da_nil))) (d_call (ok__law_any_tile t) hK (room.mono (by decide)) rfl t.m__law_any_tile t.F__law_any_tile.kp (b__law_any_tile t) (da_cons (d_var (pv 1)) da_nil))))
    (ds_cons (ds_if (PW.pt (dw_or (dt_not (dt_val (d_call (ok__law_is_pair_right t) hK (room.mono (by decide)) rfl t.m__law_is_pair_right t.F__law_is_pair_right.kp (b__law_is_pair_right t) (da_cons (d_var (pv 1)) (da_cons (d_var (pv 2)) (da_cons (d_var (pv 4)) da_nil)))))) (dw_or1 (dt_not (dt_val (d_call (ok__law_is_refusal_right t tb) hK (room.mono (by decide)) rfl t.m__law_is_refusal_right t.F__law_is_refusal_right.kp (b__law_is_refusal_right t) (da_cons (d_var (pv 1)) (da_cons (d_var (pv 2)) (da_cons (d_var (pv 4)) da_nil)))))))))
    (ds_one (ds_ret d_bl))
    ds_nil)
    (ds_one (ds_set (i := 2) sc.nd rfl (by first | exact Or.inl rfl | exact Or.inr rfl) (d_call (ok__law_pick t) hK (room.mono (by decide)) rfl t.m__law_pick t.F__law_pick.kp (b__law_pick t) (da_cons (d_var (pv 1)) (da_cons (d_lst (da_cons (d_var (pv 2)) (da_cons (d_var (pv 4)) da_nil))) da_nil))))))))
    (ds_cons (ds_asg (d_call (ok__law_pick t) hK (room.mono (by decide)) rfl t.m__law_pick t.F__law_pick.kp (b__law_pick t) (da_cons (d_var (pv 1)) (da_cons (d_call (ok__law_marked t) hK (room.mono (by decide)) rfl t.m__law_marked t.F__law_marked.kp (b__law_marked t) (da_cons (d_var (pv 2)) da_nil)) da_nil))) (dg_tup hK rfl (dgs_cons (dg_name (pg_name (i := 5) sc.nd rfl (by first | exact Or.inl rfl | exact Or.inr rfl))) (dgs_cons (dg_name (pg_name (i := 6) sc.nd rfl (by first | exact Or.inl rfl | exact Or.inr rfl))) (dgs_cons (dg_name (pg_name (i := 7) sc.nd rfl (by first | exact Or.inl rfl | exact Or.inr rfl))) dgs_nil)))))
    (ds_cons (ds_for hK PassesOwn.never rfl (d_addA hK (d_call (ok__law_choices t) hK (room.mono (by decide)) rfl t.m__law_choices t.F__law_choices.kp (b__law_choices t) (da_cons (d_var (pv 5)) (da_cons (d_not (d_var (pv 7))) da_nil))) (d_call (ok__law_choices t) hK (room.mono (by decide)) rfl t.m__law_choices t.F__law_choices.kp (b__law_choices t) (da_cons (d_var (pv 5)) (da_cons (d_var (pv 7)) da_nil)))) (dg_name (pg_name (i := 4) sc.nd rfl (by first | exact Or.inl rfl | exact Or.inr rfl)))
    (ds_one (ds_if (dt_not (dt_val (d_call (ok__law_is_pair_right t) hK (room.mono (by decide)) rfl t.m__law_is_pair_right t.F__law_is_pair_right.kp (b__law_is_pair_right t) (da_cons (d_var (pv 1)) (da_cons (d_var (pv 2)) (da_cons (d_var (pv 4)) da_nil))))))
    (ds_one (ds_ret d_bl))
    ds_nil)))
    (ds_one (ds_ret d_bl)))))))
  refine ⟨_, PSs.nox (pss_cons (ps_set (i := 1) sc.nd rfl (by first | exact Or.inl rfl | exact Or.inr rfl) (pe_callG (ok__law_deck t) (room.mono (by decide)) rfl t.m__law_deck t.F__law_deck.kp (b__law_deck t) .nil pass0 (pa_cons (pv 0) pa_nil))) (PSs.exF rest)), ?_⟩
  refine ⟨_, rfl, a, ns, rfl, hS, hlen, fun H' d l m xs hs h1 h2 h3 h4 h5 => ?_⟩
  exact law_rest h3 h4 h5 (LamX.Tabs.ext hTb hs) hT hQ
end
end K92
set_option Elab.async false
set_option linter.all false
set_option maxHeartbeats 1000000
set_option maxRecDepth 100000
namespace K92
open PySem PySem.Spec L2 DL
variable {ξ : XT} {Q : D → Prop}
/-! ### rows, tiles, edges -/
structure R5 where
  a : Int
  b : Int
  c : Int
  d : Int
  e : Int
deriving DecidableEq
namespace R5
def D (k : R5) : DL.D := .tup [.int k.a, .int k.b, .int k.c, .int k.d, .int k.e]
def sum (k : R5) : Int := [k.a, k.b, k.c, k.d, k.e].sum
def st (x r j m : Int) : Int := if r = j then x + m else x
def up (k : R5) (j m : Int) : R5 := ⟨st k.a 0 j m, st k.b 1 j m, st k.c 2 j m, st k.d 3 j m, st k.e 4 j m⟩
def add (k l : R5) : R5 := ⟨k.a + l.a, k.b + l.b, k.c + l.c, k.d + l.d, k.e + l.e⟩
end R5
abbrev Ed := R5 × Int
def eD (x : Ed) : D := .tup [x.1.D, .int x.2]
structure Tl where
  k : R5
  r : Int
  s : Int
deriving DecidableEq
namespace Tl
def D (t : Tl) : DL.D := .tup [t.k.D, .int t.r, .int t.s]
/-- its edges -/
def E (t : Tl) : Nat → Ed
  | 0 => (t.k, t.r)
  | 1 => (t.k, t.s)
  | 2 => (t.k.up t.s 1, t.r)
  | _ => (t.k.up t.r 1, t.s)
structure Ok (t : Tl) : Prop where
  l : t.k.sum = 1 ∨ t.k.sum = 2
  r0 : 0 ≤ t.r
  rs : t.r < t.s
  s4 : t.s ≤ 4
end Tl
/-! ### what is told of any value -/
def isI : D → Bool
  | .int _ => true
  | _ => false
def vi : D → Int
  | .int i => i
  | _ => 0
def sm : D → Int
  | .tup [.int a, .int b, .int c, .int d, .int e] => [a, b, c, d, e].sum
  | _ => 0
def isN (n : Int) : D → Bool
  | .tup ds => decide ((ds.length : Int) = n) && ds.all isI
  | _ => false
def isC (d : D) : Bool := isN 5 d && (decide (1 ≤ sm d) && decide (sm d ≤ 4))
def isJ : D → Bool
  | .int j => decide (0 ≤ j) && decide (j ≤ 4)
  | _ => false
def isT : D → Bool
  | .tup [a, b, c] => isC a && (!decide (2 < sm a) && (isJ b && (isJ c && decide (vi b < vi c))))
  | _ => false
def isE : D → Bool
  | .tup [a, b] => isC a && isJ b
  | _ => false
theorem szN (n : Nat) (h : n ≤ 1000 := by decide) : n ≤ sizeLine := sz h
theorem e_ipi {d : D} (h : plainR d = true) (q : Q (.bl (isI d))) : tf_is_plain_integer ξ [d] Q := by
  cases d with
  | int i => exact ⟨rfl, rfl, q⟩
  | bl b => exact ⟨rfl, rfl, q⟩
  | deck => cases h
  | ty n => cases h
  | _ => exact ⟨rfl, q⟩
theorem andq {p r : Bool} {A : Prop} (q : Q (.bl (p && r))) (k : Q (.bl r) → A) : if p = true then A else Q (.bl false) := by
  cases p
  · exact q
  · exact k q
theorem ch {x y z : Int} {ξ : XW} {env : SE} (q : Q (.bl (decide (x ≤ y) && decide (y ≤ z)))) : dChain gLe gLe (dC (.int x)) (dC (.int y)) (dC (.int z)) ξ env Q := by
  show (match (D.bl (decide (x ≤ y)) : D) with | .bl true => Q (.bl (decide (y ≤ z))) | .bl false => Q (.bl false) | _ => False)
  by_cases h : x ≤ y
  · rw [decide_eq_true h] at q ⊢
    exact q
  · rw [decide_eq_false h] at q ⊢
    exact q
theorem bls_map : ∀ bs : List Bool, blsOf (bs.map D.bl) = some bs
  | [] => rfl
  | b :: bs => by
    show (blsOf (bs.map D.bl)).map (b :: ·) = _
    rw [bls_map bs]; rfl
theorem lc_ipi {x y : Slot} : ∀ {ds : List D} {Q' : List D → Prop}, plainRs ds = true → Q' ((ds.map isI).map D.bl) → lcD (dgName 2) dYes (dCall 1 tf_is_plain_integer (dCons (dVar 2) dNil)) [x, y, .un] ds Q'
  | [], _, _, q => q
  | d :: ds, Q', h, q => by
    have h : (plainR d && plainRs ds) = true := h
    obtain ⟨h1, h2⟩ := Bool.and_eq_true_iff.mp h
    exact ⟨rfl, e_ipi h1 (lc_ipi h2 q)⟩
def isTn (n : Int) : D → Bool
  | .tup ds => decide ((ds.length : Int) = n)
  | _ => false
theorem e_ito {d : D} {n : Int} (h : plainR d = true) (q : Q (.bl (isTn n d))) : tf_is_tuple_of ξ [d, .int n] Q := by
  cases d with
  | tup ds => exact ⟨rfl, q⟩
  | deck => cases h
  | ty n => cases h
  | kt n => cases h
  | _ => exact ⟨rfl, q⟩
theorem e_api {d : D} {n : Int} (h : plainR d = true) (l : ∀ ds, seqOf d = some ds → ds.length ≤ 1000) (q : Q (.bl (isN n d))) : tf_are_plain_integers ξ [d, .int n] Q := by
  cases d with
  | tup ds =>
    refine ⟨rfl, rfl, ?_⟩
    show (if decide ((ds.length : Int) = n) = true then dCB gAll (dCons (dLcV 0 2 dYes (dCall 1 tf_is_plain_integer (dCons (dVar 2) dNil))) dNil) (fun _ _ => False) [.d (.tup ds), .d (.int n), .un] Q else Q (.bl false))
    refine andq (r := ds.all isI) q fun q => ?_
    refine ⟨sz (l ds rfl), ?_⟩
    refine lc_ipi (Q' := fun ys => gAll [.lst ys] Q) h ?_
    show (match blsOf ((ds.map isI).map D.bl) with | some bs => Q (.bl (bs.all id)) | none => False)
    rw [bls_map]
    show Q (.bl ((ds.map isI).all id))
    rw [List.all_map]
    exact q
  | deck => cases h
  | ty n => cases h
  | kt n => cases h
  | _ => exact ⟨rfl, rfl, q⟩
theorem isI_of {d : D} (h : isI d = true) : ∃ i, d = .int i := by
  cases d <;> first | exact ⟨_, rfl⟩ | cases h
theorem all5 {ds : List D} (h1 : ds.length = 5) (h2 : ds.all isI = true) : ∃ k : R5, ds = [.int k.a, .int k.b, .int k.c, .int k.d, .int k.e] := by
  match ds, h1, h2 with
  | [x, y, z, u, v], _, h2 =>
    simp only [List.all_cons, List.all_nil, Bool.and_true, Bool.and_eq_true] at h2
    obtain ⟨h3, h4, h5, h6, h7⟩ := h2
    obtain ⟨a, rfl⟩ := isI_of h3
    obtain ⟨b, rfl⟩ := isI_of h4
    obtain ⟨c, rfl⟩ := isI_of h5
    obtain ⟨d, rfl⟩ := isI_of h6
    obtain ⟨e, rfl⟩ := isI_of h7
    exact ⟨⟨a, b, c, d, e⟩, rfl⟩
theorem isN5 {d : D} (h : isN 5 d = true) : ∃ k : R5, d = k.D := by
  cases d with
  | tup ds =>
    obtain ⟨h1, h2⟩ := Bool.and_eq_true_iff.mp (show (decide ((ds.length : Int) = 5) && ds.all isI) = true from h)
    obtain ⟨k, rfl⟩ := all5 (by have := of_decide_eq_true h1; omega) h2
    exact ⟨k, rfl⟩
  | _ => cases h
theorem sm_D {k : R5} : sm k.D = k.sum := rfl
theorem isN_D {k : R5} : isN 5 k.D = true := rfl
theorem isC_D {k : R5} : isC k.D = (decide (1 ≤ k.sum) && decide (k.sum ≤ 4)) := rfl
theorem isC_of {d : D} (h : isC d = true) : ∃ k : R5, d = k.D ∧ 1 ≤ k.sum ∧ k.sum ≤ 4 := by
  obtain ⟨h1, h2⟩ := Bool.and_eq_true_iff.mp h
  obtain ⟨k, rfl⟩ := isN5 h1
  obtain ⟨h3, h4⟩ := Bool.and_eq_true_iff.mp h2
  exact ⟨k, rfl, of_decide_eq_true h3, of_decide_eq_true h4⟩
theorem isJ_of {d : D} (h : isJ d = true) : ∃ j, d = .int j ∧ 0 ≤ j ∧ j ≤ 4 := by
  cases d <;> first | cases h; done | skip
  obtain ⟨h1, h2⟩ := Bool.and_eq_true_iff.mp h
  exact ⟨_, rfl, of_decide_eq_true h1, of_decide_eq_true h2⟩
theorem isJ_j {j : Int} (h0 : 0 ≤ j) (h1 : j ≤ 4) : isJ (.int j) = true := by
  show (decide (0 ≤ j) && decide (j ≤ 4)) = true
  rw [decide_eq_true h0, decide_eq_true h1]; rfl
theorem isT_of {d : D} (h : isT d = true) : ∃ t : Tl, d = t.D ∧ t.Ok := by
  unfold isT at h
  split at h
  · simp only [Bool.and_eq_true] at h
    obtain ⟨h1, h2, h3, h4, h5⟩ := h
    obtain ⟨k, rfl, k1, k4⟩ := isC_of h1
    obtain ⟨r, rfl, r0, r4⟩ := isJ_of h3
    obtain ⟨s, rfl, s0, s4⟩ := isJ_of h4
    have h2 : (!decide (2 < k.sum)) = true := h2
    have h5 := of_decide_eq_true h5
    have h2 : ¬ 2 < k.sum := by simpa using h2
    exact ⟨⟨k, r, s⟩, rfl, ⟨by show k.sum = 1 ∨ k.sum = 2; omega, r0, h5, s4⟩⟩
  · cases h
theorem Tl.Ok.isT {t : Tl} (h : t.Ok) : isT t.D = true := by
  show (isC t.k.D && (!decide (2 < sm t.k.D) && (isJ (.int t.r) && (isJ (.int t.s) && decide (t.r < t.s))))) = true
  have := h.l
  have := h.r0
  have := h.rs
  have := h.s4
  rw [isC_D, sm_D, isJ_j (by omega) (by omega), isJ_j (by omega) (by omega), decide_eq_true (by omega : 1 ≤ t.k.sum), decide_eq_true (by omega : t.k.sum ≤ 4), decide_eq_false (by omega : ¬ 2 < t.k.sum), decide_eq_true h.rs]
  rfl
theorem isE_of {d : D} (h : isE d = true) : ∃ x : Ed, d = eD x ∧ 1 ≤ x.1.sum ∧ x.1.sum ≤ 4 ∧ 0 ≤ x.2 ∧ x.2 ≤ 4 := by
  unfold isE at h
  split at h
  · obtain ⟨h1, h2⟩ := Bool.and_eq_true_iff.mp h
    obtain ⟨k, rfl, k1, k4⟩ := isC_of h1
    obtain ⟨r, rfl, r0, r4⟩ := isJ_of h2
    exact ⟨(k, r), rfl, k1, k4, r0, r4⟩
  · cases h
/-- plain parts -/
structure Pl (d : D) : Prop where
  pl : plainR d = true
  le : ∀ ds, seqOf d = some ds → ds.length ≤ 1000
section
variable {d : D}
theorem e_isR (g : Pl d) (q : Q (.bl (isN 5 d))) : tf_is_row ξ [d] Q := ⟨rfl, e_api g.pl g.le q⟩
theorem e_isC (g : Pl d) (q : Q (.bl (isC d))) : tf_is_corner_row ξ [d] Q := by
  refine ⟨rfl, e_isR g ?_⟩
  cases h : isN 5 d with
  | false =>
    have e : isC d = false := by unfold isC; rw [h]; rfl
    rw [e] at q
    exact q
  | true =>
    obtain ⟨k, rfl⟩ := isN5 h
    exact (show dChain gLe gLe (dC (.int 1)) (dC (.int k.sum)) (dC (.int 4)) (fun _ _ => False) [] Q from ch q)
theorem e_isJ (g : plainR d = true) (q : Q (.bl (isJ d))) : tf_is_direction ξ [d] Q := by
  refine ⟨rfl, e_ipi g ?_⟩
  cases d with
  | int j => exact (show dChain gLe gLe (dC (.int 0)) (dC (.int j)) (dC (.int 4)) (fun _ _ => False) [] Q from ch q)
  | _ => exact q
end
end K92
set_option Elab.async false
set_option linter.all false
set_option maxHeartbeats 1000000
set_option maxRecDepth 100000
namespace K92
open PySem PySem.Spec L2 DL
variable {ξ : XT} {Q : D → Prop}
mutual
def okb : D → Bool
  | .tup ds => decide (ds.length ≤ 1000) && okbs ds
  | .lst ds => decide (ds.length ≤ 1000) && okbs ds
  | .deck => false
  | .ty _ => false
  | .kt _ => false
  | _ => true
def okbs : List D → Bool
  | [] => true
  | d :: ds => okb d && okbs ds
end
theorem okbs_mem : ∀ {ds : List D}, okbs ds = true → ∀ d ∈ ds, okb d = true
  | [], _, _, m => by cases m
  | x :: ds, h, d, m => by
    obtain ⟨h1, h2⟩ := Bool.and_eq_true_iff.mp (show (okb x && okbs ds) = true from h)
    rcases List.mem_cons.mp m with rfl | m
    · exact h1
    · exact okbs_mem h2 d m
theorem okbs_of : ∀ {ds : List D}, (∀ d ∈ ds, okb d = true) → okbs ds = true
  | [], _ => rfl
  | x :: ds, h => by
    show (okb x && okbs ds) = true
    rw [h x List.mem_cons_self, okbs_of fun d m => h d (List.mem_cons_of_mem _ m)]; rfl
structure Pd (d : D) : Prop where
  p : plainR d = true
  o : okb d = true
theorem Pd.pl {d : D} (v : Pd d) : Pl d := ⟨v.p, fun ds e => by
  cases d <;> first | (cases e; done) | skip
  · cases e
    exact of_decide_eq_true (Bool.and_eq_true_iff.mp (show (decide (ds.length ≤ 1000) && okbs ds) = true from v.o)).1
  · cases e
    exact of_decide_eq_true (Bool.and_eq_true_iff.mp (show (decide (ds.length ≤ 1000) && okbs ds) = true from v.o)).1⟩
theorem Pd.part {ds : List D} (v : Pd (.tup ds)) : ∀ d ∈ ds, Pd d := fun d m => ⟨plainRs_mem v.p d m, okbs_mem (Bool.and_eq_true_iff.mp (show (decide (ds.length ≤ 1000) && okbs ds) = true from v.o)).2 d m⟩
theorem Pd.len {ds : List D} (v : Pd (.tup ds)) : ds.length ≤ 1000 := v.pl.le ds rfl
theorem pd_R (k : R5) : Pd k.D := ⟨rfl, rfl⟩
theorem pd_T (t : Tl) : Pd t.D := ⟨rfl, rfl⟩
theorem pd_E (x : Ed) : Pd (eD x) := ⟨rfl, rfl⟩
/-! ### is it a tile? -/
theorem tn3 {d : D} (h : isTn 3 d = true) : ∃ a b c, d = .tup [a, b, c] := by
  cases d <;> first | cases h; done | skip
  rename_i ds
  have h := of_decide_eq_true h
  match ds, h with
  | [a, b, c], _ => exact ⟨a, b, c, rfl⟩
  | [], h => cases h
  | [_], h => cases h
  | [_, _], h => cases h
  | _ :: _ :: _ :: _ :: _, h => simp only [List.length_cons] at h; omega
theorem tn2 {d : D} (h : isTn 2 d = true) : ∃ a b, d = .tup [a, b] := by
  cases d <;> first | cases h; done | skip
  rename_i ds
  have h := of_decide_eq_true h
  match ds, h with
  | [a, b], _ => exact ⟨a, b, rfl⟩
  | [], h => cases h
  | [_], h => cases h
  | _ :: _ :: _ :: _, h => simp only [List.length_cons] at h; omega
theorem isT_n {d : D} (h : isTn 3 d = false) : isT d = false := by
  unfold isT
  split
  · rename_i a b c
    exact absurd (show isTn 3 (.tup [a, b, c]) = true from rfl) (by rw [h]; decide)
  · rfl
theorem isE_n {d : D} (h : isTn 2 d = false) : isE d = false := by
  unfold isE
  split
  · rename_i a b
    exact absurd (show isTn 2 (.tup [a, b]) = true from rfl) (by rw [h]; decide)
  · rfl
theorem e_isT {x : D} (v : Pd x) (q : Q (.bl (isT x))) : tf_is_tile_row ξ [x] Q := by
  refine ⟨rfl, e_ito v.p ?_⟩
  cases hl : isTn 3 x with
  | false =>
    rw [isT_n hl] at q
    exact q
  | true =>
    obtain ⟨a, b, c, rfl⟩ := tn3 hl
    have va := v.part a (by simp)
    have vb := v.part b (by simp)
    have vc := v.part c (by simp)
    have q : Q (.bl (isC a && (!decide (2 < sm a) && (isJ b && (isJ c && decide (vi b < vi c)))))) := q
    refine ⟨rfl, e_isC va.pl ?_⟩
    cases hc : isC a with
    | false =>
      rw [hc] at q
      exact q
    | true =>
      rw [hc] at q
      obtain ⟨k, rfl, _, _⟩ := isC_of hc
      show (if decide (2 < k.sum) = true then _ else _)
      have q : Q (.bl (!decide (2 < k.sum) && (isJ b && (isJ c && decide (vi b < vi c))))) := q
      cases h2 : decide (2 < k.sum) with
      | true =>
        rw [h2] at q
        exact q
      | false =>
        rw [h2] at q
        refine ⟨rfl, e_isJ vb.p ?_⟩
        cases hb : isJ b with
        | false =>
          rw [hb] at q
          exact q
        | true =>
          rw [hb] at q
          obtain ⟨r, rfl, _, _⟩ := isJ_of hb
          refine ⟨rfl, e_isJ vc.p ?_⟩
          cases hc : isJ c with
          | false =>
            rw [hc] at q
            exact q
          | true =>
            rw [hc] at q
            obtain ⟨s, rfl, _, _⟩ := isJ_of hc
            exact q
theorem e_needT {x : D} (v : Pd x) (h1 : isT x = false → ξ ⟨"BadTile", [("thing", x)]⟩) (h2 : isT x = true → Q .non) : tf_need_tile ξ [x] Q := by
  refine ⟨rfl, e_isT v ?_⟩
  cases h : isT x with
  | false => exact h1 h
  | true => exact h2 h
end K92
set_option Elab.async false
set_option linter.all false
set_option maxHeartbeats 1000000
set_option maxRecDepth 100000
namespace K92
open PySem PySem.Spec L2 DL
variable {ξ : XT} {Q : D → Prop}
theorem five {j : Int} (j0 : 0 ≤ j) (j1 : j ≤ 4) : j = 0 ∨ j = 1 ∨ j = 2 ∨ j = 3 ∨ j = 4 := by omega
theorem e_stepped {k : R5} {j m : Int} (j0 : 0 ≤ j) (j1 : j ≤ 4) (q : Q (k.up j m).D) : tf_stepped ξ [k.D, .int j, .int m] Q := by
  rcases five j0 j1 with rfl | rfl | rfl | rfl | rfl
  · exact ⟨rfl, szN 1, szN 1, szN 5, q⟩
  · exact ⟨rfl, szN 1, szN 2, szN 5, q⟩
  · exact ⟨rfl, szN 1, szN 3, szN 5, q⟩
  · exact ⟨rfl, szN 1, szN 4, szN 5, q⟩
  · exact ⟨rfl, szN 1, szN 5, szN 5, q⟩
theorem up_sum {k : R5} {j m : Int} (j0 : 0 ≤ j) (j1 : j ≤ 4) : (k.up j m).sum = k.sum + m := by
  have e : ∀ l : R5, l.sum = l.a + (l.b + (l.c + (l.d + (l.e + 0)))) := fun _ => rfl
  rw [e, e]
  rcases five j0 j1 with rfl | rfl | rfl | rfl | rfl
  · show k.a + m + (k.b + (k.c + (k.d + (k.e + 0)))) = _; omega
  · show k.a + (k.b + m + (k.c + (k.d + (k.e + 0)))) = _; omega
  · show k.a + (k.b + (k.c + m + (k.d + (k.e + 0)))) = _; omega
  · show k.a + (k.b + (k.c + (k.d + m + (k.e + 0)))) = _; omega
  · show k.a + (k.b + (k.c + (k.d + (k.e + m + 0)))) = _; omega
section
variable {t u : Tl}
theorem Tl.Ok.r4 (h : t.Ok) : t.r ≤ 4 := by
  have := h.rs
  have := h.s4
  omega
theorem Tl.Ok.s0 (h : t.Ok) : 0 ≤ t.s := by
  have := h.rs
  have := h.r0
  omega
def eds (t : Tl) : List D := [eD (t.E 0), eD (t.E 1), eD (t.E 2), eD (t.E 3)]
theorem need {x : Prop} (h : t.Ok) : isT t.D = false → x := fun z => absurd h.isT (by rw [z]; decide)
theorem e_edges (h : t.Ok) (q : Q (.tup (eds t))) : tf_edges_of ξ [t.D] Q :=
  ⟨rfl, e_needT (pd_T t) (need h) fun _ => ⟨rfl, szN 2, szN 2, rfl, e_stepped h.s0 h.s4 ⟨szN 2, rfl, e_stepped h.r0 h.r4 ⟨szN 2, szN 4, q⟩⟩⟩⟩
theorem e_edgesK (h : t.Ok) (q : Q (.kt (eds t))) : tf_edges_of_K ξ [t.D] Q :=
  ⟨rfl, e_needT (pd_T t) (need h) fun _ => ⟨rfl, szN 2, szN 2, rfl, e_stepped h.s0 h.s4 ⟨szN 2, rfl, e_stepped h.r0 h.r4 ⟨szN 2, szN 4, q⟩⟩⟩⟩
/-! ### the place of an edge -/
def pl (t : Tl) (x : Ed) : Option Nat := if t.E 0 = x then some 0 else if t.E 1 = x then some 1 else if t.E 2 = x then some 2 else if t.E 3 = x then some 3 else none
theorem pl_lt {x : Ed} {j : Nat} (h : pl t x = some j) : j < 4 := by
  unfold pl at h
  repeat' split at h
  all_goals first | (cases h; decide) | cases h
def toEd : D → Ed
  | .tup [.tup [.int a, .int b, .int c, .int d, .int e], .int j] => (⟨a, b, c, d, e⟩, j)
  | _ => (⟨0, 0, 0, 0, 0⟩, 0)
theorem toEd_eD (x : Ed) : toEd (eD x) = x := rfl
def plX (t : Tl) (x : D) : Option Nat := if isE x = true then pl t (toEd x) else none
def oD : Option Nat → D
  | some i => .int (i : Nat)
  | none => .non
theorem eqv_E (x y : Ed) : PyData.eqv (toP (eD x)) (toP (eD y)) = decide (x = y) := by
  obtain ⟨⟨a, b, c, d, e⟩, j⟩ := x
  obtain ⟨⟨a', b', c', d', e'⟩, j'⟩ := y
  rw [Bool.eq_iff_iff]
  simp [eD, R5.D, toP, toPs, PyData.eqv, PyData.eqvAll, Prod.mk.injEq, R5.mk.injEq, and_assoc]
theorem eqOk_E (x : Ed) : eqOk (eD x) = true := by
  simp [eqOk, eD, R5.D, DL.plain, plains, toP, toPs, SeqAt.shaped, PyData.canLay0, PyData.canLayAll0, PyData.depth, PyData.depthAll]
theorem eqOk_K : eqOk (.kt (eds t)) = true := by
  simp [eqOk, eds, eD, R5.D, DL.plain, plains, toP, toPs, SeqAt.shaped, PyData.canLay0, PyData.canLayAll0, PyData.depth, PyData.depthAll]
theorem in_pl (x : Ed) : inD (eD x) (eds t) = (pl t x).isSome := by
  unfold inD eds pl
  simp only [toPs, List.any_cons, List.any_nil, eqv_E]
  repeat' split
  all_goals simp_all
theorem idx_pl (x : Ed) : idxD (eD x) (eds t) = pl t x := by
  unfold idxD eds pl
  simp only [toPs, List.findIdx?_cons, eqv_E, List.findIdx?_nil]
  repeat' split
  all_goals simp_all
theorem e_place {x : D} (h : t.Ok) (v : Pd x) (q : Q (oD (plX t x))) : tf__place_of_edge ξ [t.D, x] Q := by
  unfold plX at q
  refine ⟨rfl, e_ito v.p ?_⟩
  cases h2 : isTn 2 x with
  | false =>
    rw [isE_n h2] at q
    exact q
  | true =>
    obtain ⟨a, b, rfl⟩ := tn2 h2
    have va := v.part a (by simp)
    have vb := v.part b (by simp)
    have hE : isE (.tup [a, b]) = (isC a && isJ b) := rfl
    rw [hE] at q
    refine ⟨rfl, e_isC va.pl ?_⟩
    cases hc : isC a with
    | false =>
      rw [hc] at q
      exact q
    | true =>
      rw [hc] at q
      refine ⟨rfl, e_isJ vb.p ?_⟩
      cases hj : isJ b with
      | false =>
        rw [hj] at q
        exact q
      | true =>
        rw [hj] at q
        obtain ⟨k, rfl, _, _⟩ := isC_of hc
        obtain ⟨j, rfl, _, _⟩ := isJ_of hj
        have q : Q (oD (pl t (k, j))) := q
        refine ⟨rfl, e_edgesK h ?_⟩
        show (eqOk (eD (k, j)) = true ∧ eqOk (.kt (eds t)) = true) ∧ (if inD (eD (k, j)) (eds t) = true then _ else _)
        refine ⟨⟨eqOk_E _, eqOk_K⟩, ?_⟩
        rw [in_pl]
        cases hp : pl t (k, j) with
        | none =>
          rw [hp] at q
          exact q
        | some i =>
          rw [hp] at q
          show (eqOk (.kt (eds t)) = true ∧ eqOk (eD (k, j)) = true) ∧ (match idxD (eD (k, j)) (eds t) with | some j => Q (.int (j : Nat)) | none => False)
          refine ⟨⟨eqOk_K, eqOk_E _⟩, ?_⟩
          rw [idx_pl, hp]
          exact q
end
end K92
set_option Elab.async false
set_option linter.all false
set_option maxHeartbeats 1000000
set_option maxRecDepth 100000
namespace K92
open PySem PySem.Spec L2 DL
variable {ξ : XT} {Q : D → Prop}
/-! ### left and right -/
def lfB (r s : Int) : Nat → Bool
  | 0 => inV (.int ((s - r) % 5)) [.int 1, .int 2]
  | 1 => inV (.int ((r - s) % 5)) [.int 1, .int 2]
  | 2 => inV (.int ((s - r) % 5)) [.int 3, .int 4]
  | _ => inV (.int ((r - s) % 5)) [.int 3, .int 4]
theorem p5 : (0 : Int) < 5 := by decide
theorem four {i : Nat} (h : i < 4) : i = 0 ∨ i = 1 ∨ i = 2 ∨ i = 3 := by omega
section
variable {t u : Tl}
theorem e_left {i : Nat} (h : i < 4) (q : Q (.bl (lfB t.r t.s i))) : tf__is_left_at ξ [t.D, .int (i : Nat)] Q := by
  rcases four h with rfl | rfl | rfl | rfl
  · exact ⟨rfl, szN 2, p5, szN 2, q⟩
  · exact ⟨rfl, szN 2, p5, szN 2, q⟩
  · exact ⟨rfl, szN 2, p5, szN 2, q⟩
  · exact ⟨rfl, szN 2, p5, szN 2, q⟩
theorem pairs (h : t.Ok) : ∀ P : Int → Int → Prop, P 0 1 → P 0 2 → P 0 3 → P 0 4 → P 1 2 → P 1 3 → P 1 4 → P 2 3 → P 2 4 → P 3 4 → P t.r t.s := by
  intro P h1 h2 h3 h4 h5 h6 h7 h8 h9 h10
  have a := h.r0
  have b := h.rs
  have c := h.s4
  generalize t.r = r at *
  generalize t.s = s at *
  have : (r = 0 ∧ s = 1) ∨ (r = 0 ∧ s = 2) ∨ (r = 0 ∧ s = 3) ∨ (r = 0 ∧ s = 4) ∨ (r = 1 ∧ s = 2) ∨ (r = 1 ∧ s = 3) ∨ (r = 1 ∧ s = 4) ∨ (r = 2 ∧ s = 3) ∨ (r = 2 ∧ s = 4) ∨ (r = 3 ∧ s = 4) := by omega
  rcases this with ⟨rfl, rfl⟩ | ⟨rfl, rfl⟩ | ⟨rfl, rfl⟩ | ⟨rfl, rfl⟩ | ⟨rfl, rfl⟩ | ⟨rfl, rfl⟩ | ⟨rfl, rfl⟩ | ⟨rfl, rfl⟩ | ⟨rfl, rfl⟩ | ⟨rfl, rfl⟩ <;> assumption
theorem E_rng (h : t.Ok) (i : Nat) : 0 ≤ (t.E i).2 ∧ (t.E i).2 ≤ 4 := by
  have a := h.r0
  have b := h.rs
  have c := h.s4
  unfold Tl.E
  split <;> (show 0 ≤ (_ : Int) ∧ (_ : Int) ≤ 4) <;> dsimp only <;> omega
/-! ### marks -/
def thk (r s : Int) : Bool := inV (.int (s - r)) [.int 1, .int 4]
def inn (l r s : Int) : Str := if (thk r s == decide (l = 1)) = true then "up" else "down"
def mkS (l r s : Int) (i : Nat) : Str := if (decide (l = 1) == decide (i < 2)) = true then "outer" else inn l r s
theorem eqB {a b : Bool} {Q : D → Prop} (q : Q (.bl (a == b))) : gEq (.bl a) (.bl b) Q := by
  refine ⟨⟨by cases a <;> rfl, by cases b <;> rfl⟩, ?_⟩
  cases a <;> cases b <;> exact q
theorem neB {a b : Bool} {Q : D → Prop} (q : Q (.bl (a != b))) : gNe (.bl a) (.bl b) Q := by
  refine ⟨⟨by cases a <;> rfl, by cases b <;> rfl⟩, ?_⟩
  cases a <;> cases b <;> exact q
theorem e_thick (h : t.Ok) (q : Q (.bl (thk t.r t.s))) : tf_is_thick ξ [t.D] Q := ⟨rfl, e_needT (pd_T t) (need h) fun _ => ⟨szN 2, q⟩⟩
theorem e_low (h : t.Ok) (q : Q (.bl (decide (t.k.sum = 1)))) : tf_is_low ξ [t.D] Q := ⟨rfl, e_needT (pd_T t) (need h) fun _ => q⟩
theorem gin2 {a x y : Int} {P : D → Prop} (h : P (.bl (inV (.int a) [.int x, .int y]))) : gIn false (.int a) (.tup [.int x, .int y]) P := h
def mk4 (t : Tl) : List D := [.str (mkS t.k.sum t.r t.s 0), .str (mkS t.k.sum t.r t.s 1), .str (mkS t.k.sum t.r t.s 2), .str (mkS t.k.sum t.r t.s 3)]
theorem e_marks (h : t.Ok) (q : Q (.tup (mk4 t))) : tf_marks_of ξ [t.D] Q := by
  refine ⟨rfl, e_needT (pd_T t) (need h) fun _ => ?_⟩
  refine ⟨rfl, e_thick h ⟨rfl, e_low h (eqB ?_)⟩⟩
  unfold mk4 mkS inn at q
  cases hb : (thk t.r t.s == decide (t.k.sum = 1)) with
  | true =>
    rw [hb] at q
    refine ⟨rfl, e_low h ?_⟩
    cases hl : decide (t.k.sum = 1) with
    | true =>
      rw [hl] at q
      exact ⟨szN 4, q⟩
    | false =>
      rw [hl] at q
      exact ⟨szN 4, q⟩
  | false =>
    rw [hb] at q
    refine ⟨rfl, e_low h ?_⟩
    cases hl : decide (t.k.sum = 1) with
    | true =>
      rw [hl] at q
      exact ⟨szN 4, q⟩
    | false =>
      rw [hl] at q
      exact ⟨szN 4, q⟩
theorem mk_at {i : Nat} (h : i < 4) (q : Q (.str (mkS t.k.sum t.r t.s i))) : gIx (.tup (mk4 t)) (.int (i : Nat)) Q := by
  rcases four h with rfl | rfl | rfl | rfl <;> exact q
theorem E_sum (h : t.Ok) {i : Nat} : (t.E i).1.sum = t.k.sum + if i < 2 then 0 else 1 := by
  unfold Tl.E
  split
  · show t.k.sum = t.k.sum + 0; omega
  · show t.k.sum = t.k.sum + 0; omega
  · exact up_sum h.s0 h.s4
  · rename_i n1 n2 n3
    rw [if_neg]
    · exact up_sum h.r0 h.r4
    · intro z
      have : i = 0 ∨ i = 1 := by omega
      rcases this with e | e
      · exact n1 e
      · exact n2 e
end
end K92
set_option Elab.async false
set_option linter.all false
set_option maxHeartbeats 1000000
set_option maxRecDepth 100000
namespace K92
open PySem PySem.Spec L2 DL
variable {ξ : XT} {Q : D → Prop}
/-! ### two tiles -/
def val (t u : Tl) (i j : Nat) : Bool := decide (mkS t.k.sum t.r t.s i = mkS u.k.sum u.r u.s j) && (lfB t.r t.s i != lfB u.r u.s j)
def fitF (t u : Tl) (i : Nat) (rest : Bool) : Bool := match pl u (t.E i) with
  | some j => val t u i j
  | none => rest
def fit (t u : Tl) : Bool := fitF t u 0 (fitF t u 1 (fitF t u 2 (fitF t u 3 false)))
section
variable {t u : Tl} {De : DEnds} {ζ : XW} {s2 s3 s4 s5 s6 s7 s8 : Slot}
theorem isE_E (h : t.Ok) {i : Nat} : isE (eD (t.E i)) = true := by
  have a := E_sum h (i := i)
  obtain ⟨b, c⟩ := E_rng h i
  have l := h.l
  show (isC (t.E i).1.D && isJ (.int (t.E i).2)) = true
  rw [isC_D, isJ_j b c]
  have h1 : 1 ≤ (t.E i).1.sum := by rw [a]; split <;> omega
  have h2 : (t.E i).1.sum ≤ 4 := by rw [a]; split <;> omega
  rw [decide_eq_true h1, decide_eq_true h2]; rfl
theorem plX_E (h : t.Ok) {i : Nat} : plX u (eD (t.E i)) = pl u (t.E i) := by
  unfold plX
  rw [isE_E h]; rfl
abbrev FB : TDS := (dSeq (dAsg (dCallX 2 tf__place_of_edge (dCons (dVar 1) (dCons (dVar 3) dNil))) (dgName 4))
    (dIfS (dTest (dBin gNotN (dVar 4) (dC .non)))
    (dSeq (dAsg (dBin gEq (dBin gIx (dCallX 1 tf_marks_of (dCons (dVar 0) dNil)) (dVar 2)) (dBin gIx (dCallX 1 tf_marks_of (dCons (dVar 1) dNil)) (dVar 4))) (dgName 5))
    (dRet (dAnd (dVar 5) (dBin gNe (dCall 2 tf__is_left_at (dCons (dVar 0) (dCons (dVar 2) dNil))) (dCall 2 tf__is_left_at (dCons (dVar 1) (dCons (dVar 4) dNil)))))))
    dNext))
theorem f_turn (ht : t.Ok) (hu : u.Ok) {i : Nat} (hi : i < 4) (q1 : ∀ j, pl u (t.E i) = some j → De.rt (.bl (val t u i j))) (q2 : pl u (t.E i) = none → ∀ s4, De.nx [.d t.D, .d u.D, .d (.int (i : Nat)), .d (eD (t.E i)), s4, s5]) :
    FB ζ De [.d t.D, .d u.D, .d (.int (i : Nat)), .d (eD (t.E i)), s4, s5] := by
  refine ⟨rfl, e_place hu (pd_E _) ?_⟩
  rw [plX_E ht]
  cases hp : pl u (t.E i) with
  | none => exact q2 hp _
  | some j =>
    have q := q1 j hp
    have hj := pl_lt hp
    refine ⟨rfl, e_marks ht (mk_at hi ⟨rfl, e_marks hu (mk_at hj ?_)⟩)⟩
    unfold val at q
    show (if decide (mkS t.k.sum t.r t.s i = mkS u.k.sum u.r u.s j) = true then _ else _)
    cases hm : decide (mkS t.k.sum t.r t.s i = mkS u.k.sum u.r u.s j) with
    | false =>
      rw [hm] at q
      exact q
    | true =>
      rw [hm] at q
      exact ⟨rfl, e_left hi ⟨rfl, e_left hj (neB q)⟩⟩
abbrev FG : TDG := dgTup 2 (dgCons (dgName 2) (dgCons (dgName 3) dgNil))
theorem f_loop {i : Nat} (ht : t.Ok) (hu : u.Ok) (hi : i < 4) {xs : List D} {b : Bool} (q : De.rt (.bl (fitF t u i b))) (h : pl u (t.E i) = none → De.rt (.bl b) → ∀ s2 s3 s4, forD FG FB ζ De xs [.d t.D, .d u.D, s2, s3, s4, s5]) :
    forD FG FB ζ De (.tup [.int (i : Nat), eD (t.E i)] :: xs) [.d t.D, .d u.D, s2, s3, s4, s5] := by
  unfold fitF at q
  refine ⟨rfl, f_turn (De := { De with nx := forD FG FB ζ De xs, ct := forD FG FB ζ De xs, bk := De.nx }) ht hu hi (fun j hj => ?_) (fun hn s4 => ?_)⟩
  · rw [hj] at q
    exact q
  · rw [hn] at q
    exact h hn q _ _ _
theorem e_fit (ht : t.Ok) (hu : u.Ok) (q : Q (.bl (fit t u))) : tf_does_fit ξ [t.D, u.D] Q := by
  refine ⟨rfl, e_needT (pd_T t) (need ht) fun _ => ?_⟩
  refine ⟨rfl, e_needT (pd_T u) (need hu) fun _ => ?_⟩
  refine ⟨rfl, e_edges ht ?_⟩
  have fin : ∀ {De : DEnds} {ζ : XW} {s2 s3 s4 s5 : Slot}, (De.rt (.bl (fit t u))) → (∀ s2 s3 s4, De.rt (.bl false) → De.nx [.d t.D, .d u.D, s2, s3, s4, s5]) → forD FG FB ζ De (enumD 0 (eds t)) [.d t.D, .d u.D, s2, s3, s4, s5] := by
    intro De ζ s2 s3 s4 s5 q n
    show forD FG FB ζ De [.tup [.int (0 : Nat), eD (t.E 0)], .tup [.int (1 : Nat), eD (t.E 1)], .tup [.int (2 : Nat), eD (t.E 2)], .tup [.int (3 : Nat), eD (t.E 3)]] _
    refine f_loop ht hu (by decide) q fun _ q _ _ _ => ?_
    refine f_loop ht hu (by decide) q fun _ q _ _ _ => ?_
    refine f_loop ht hu (by decide) q fun _ q _ _ _ => ?_
    exact f_loop ht hu (by decide) q fun _ q _ _ _ => n _ _ _ q
  exact fin q fun _ _ _ q => q
end
end K92
set_option Elab.async false
set_option linter.all false
set_option maxHeartbeats 1000000
set_option maxRecDepth 100000
namespace K92
open PySem PySem.Spec L2 DL
variable {ξ : XT} {Q : D → Prop}
/-! ### tiles beside one another -/
def z0 : R5 := ⟨0, 0, 0, 0, 0⟩
def sh (k : R5) (t : Tl) : Tl := ⟨k.add t.k, t.r, t.s⟩
theorem R5.ext' {k l : R5} (h1 : k.a = l.a) (h2 : k.b = l.b) (h3 : k.c = l.c) (h4 : k.d = l.d) (h5 : k.e = l.e) : k = l := by
  cases k
  cases l
  simp only at h1 h2 h3 h4 h5
  subst h1 h2 h3 h4 h5
  rfl
theorem add_inj {k x y : R5} : k.add x = k.add y ↔ x = y := by
  constructor
  · intro h
    unfold R5.add at h
    simp only [R5.mk.injEq] at h
    obtain ⟨h1, h2, h3, h4, h5⟩ := h
    exact R5.ext' (by omega) (by omega) (by omega) (by omega) (by omega)
  · rintro rfl
    rfl
theorem st_add {a x r j m : Int} : R5.st (a + x) r j m = a + R5.st x r j m := by
  unfold R5.st
  split <;> omega
theorem up_add {k x : R5} {j m : Int} : (k.add x).up j m = k.add (x.up j m) := R5.ext' st_add st_add st_add st_add st_add
theorem sum_add {k x : R5} : (k.add x).sum = k.sum + x.sum := by
  have e : ∀ l : R5, l.sum = l.a + (l.b + (l.c + (l.d + (l.e + 0)))) := fun _ => rfl
  rw [e, e, e]
  show k.a + x.a + (k.b + x.b + (k.c + x.c + (k.d + x.d + (k.e + x.e + 0)))) = _
  omega
theorem sh_z {t : Tl} : sh t.k ⟨z0, t.r, t.s⟩ = t := by
  obtain ⟨⟨a, b, c, d, e⟩, r, s⟩ := t
  unfold sh R5.add z0
  simp
theorem sh_inj {k : R5} {t u : Tl} : sh k t = sh k u ↔ t = u := by
  obtain ⟨a, r, s⟩ := t
  obtain ⟨b, r', s'⟩ := u
  unfold sh
  simp only [Tl.mk.injEq, add_inj]
def she (k : R5) (x : Ed) : Ed := (k.add x.1, x.2)
theorem she_inj {k : R5} {x y : Ed} : she k x = she k y ↔ x = y := by
  obtain ⟨a, b⟩ := x
  obtain ⟨c, d⟩ := y
  unfold she
  simp only [Prod.mk.injEq, add_inj]
theorem E_sh {k : R5} {t : Tl} {i : Nat} : (sh k t).E i = she k (t.E i) := by
  unfold Tl.E she sh
  split
  · rfl
  · rfl
  · rw [up_add]
  · rw [up_add]
theorem pl_sh {k : R5} {u : Tl} {x : Ed} : pl (sh k u) (she k x) = pl u x := by
  unfold pl
  simp only [E_sh, she_inj]
def valL (L : Int) (t u : Tl) (i j : Nat) : Bool := decide (mkS (L + t.k.sum) t.r t.s i = mkS (L + u.k.sum) u.r u.s j) && (lfB t.r t.s i != lfB u.r u.s j)
def fitG (L : Int) (t u : Tl) (i : Nat) (rest : Bool) : Bool := match pl u (t.E i) with
  | some j => valL L t u i j
  | none => rest
def fitL (L : Int) (t u : Tl) : Bool := fitG L t u 0 (fitG L t u 1 (fitG L t u 2 (fitG L t u 3 false)))
theorem val_sh {k : R5} {t u : Tl} {i j : Nat} : val (sh k t) (sh k u) i j = valL k.sum t u i j := by
  unfold val valL
  show (decide (mkS (k.add t.k).sum t.r t.s i = mkS (k.add u.k).sum u.r u.s j) && _) = _
  rw [sum_add, sum_add]
  rfl
theorem fitF_sh {k : R5} {t u : Tl} {i : Nat} {b : Bool} : fitF (sh k t) (sh k u) i b = fitG k.sum t u i b := by
  unfold fitF fitG
  rw [E_sh, pl_sh]
  cases pl u (t.E i) with
  | none => rfl
  | some j => exact val_sh
theorem fit_sh {k : R5} {t u : Tl} : fit (sh k t) (sh k u) = fitL k.sum t u := by
  unfold fit fitL
  rw [fitF_sh, fitF_sh, fitF_sh, fitF_sh]
def lo (j v : Int) : Int := if v < j then v else j
def hi (j v : Int) : Int := if v > j then v else j
def farT (x : Ed) (v m : Int) : Tl := ⟨x.1.up v m, lo x.2 v, hi x.2 v⟩
theorem far_sh {k : R5} {x : Ed} {v m : Int} : farT (she k x) v m = sh k (farT x v m) := by
  unfold farT she sh
  rw [up_add]
def ck (L r s : Int) (i : Nat) (v m : Int) : Bool :=
  let t : Tl := ⟨z0, r, s⟩
  let x := t.E i
  let u := farT x v m
  if v = x.2 then true else if L + u.k.sum = 1 ∨ L + u.k.sum = 2 then (if u = t then !fitL L t t else fitL L u t == fitL L t u) else true
def ckA (r s : Int) : Bool := [(1 : Int), 2].all fun L => [0, 1, 2, 3].all fun i => [(0 : Int), 1, 2, 3, 4].all fun v => [(0 : Int), -1].all fun m => ck L r s i v m
theorem ck_all : ckA 0 1 = true ∧ ckA 0 2 = true ∧ ckA 0 3 = true ∧ ckA 0 4 = true ∧ ckA 1 2 = true ∧ ckA 1 3 = true ∧ ckA 1 4 = true ∧ ckA 2 3 = true ∧ ckA 2 4 = true ∧ ckA 3 4 = true := by
  refine ⟨?_, ?_, ?_, ?_, ?_, ?_, ?_, ?_, ?_, ?_⟩ <;> decide +kernel
section
variable {t : Tl}
theorem ck_t (h : t.Ok) {i : Nat} (hi : i < 4) {v m : Int} (v0 : 0 ≤ v) (v4 : v ≤ 4) (hm : m = 0 ∨ m = -1) : ck t.k.sum t.r t.s i v m = true := by
  obtain ⟨c1, c2, c3, c4, c5, c6, c7, c8, c9, c10⟩ := ck_all
  have z := pairs h (fun r s => ckA r s = true) c1 c2 c3 c4 c5 c6 c7 c8 c9 c10
  unfold ckA at z
  simp only [List.all_eq_true] at z
  refine z _ ?_ _ ?_ _ ?_ _ ?_
  · have := h.l
    simp only [List.mem_cons, List.not_mem_nil, or_false]
    exact this
  · simp only [List.mem_cons, List.not_mem_nil, or_false]
    omega
  · simp only [List.mem_cons, List.not_mem_nil, or_false]
    omega
  · simp only [List.mem_cons, List.not_mem_nil, or_false]
    exact hm
/-- the tile over an edge: in either order the same -/
theorem far_fit (h : t.Ok) {i : Nat} (hi : i < 4) {v m : Int} (v0 : 0 ≤ v) (v4 : v ≤ 4) (hm : m = 0 ∨ m = -1) (hv : v ≠ (t.E i).2) (hl : (farT (t.E i) v m).k.sum = 1 ∨ (farT (t.E i) v m).k.sum = 2) :
    (farT (t.E i) v m = t → fit t t = false) ∧ (farT (t.E i) v m ≠ t → fit (farT (t.E i) v m) t = fit t (farT (t.E i) v m)) := by
  have c := ck_t h hi v0 v4 hm
  have e : t = sh t.k ⟨z0, t.r, t.s⟩ := sh_z.symm
  generalize hk : t.k = k at *
  generalize hr : t.r = r at *
  generalize hs : t.s = s at *
  rw [e] at hl hv ⊢
  rw [E_sh] at hl hv ⊢
  rw [far_sh] at hl ⊢
  rw [fit_sh, fit_sh, fit_sh, Ne, sh_inj]
  have hl' : k.sum + (farT ((⟨z0, r, s⟩ : Tl).E i) v m).k.sum = 1 ∨ k.sum + (farT ((⟨z0, r, s⟩ : Tl).E i) v m).k.sum = 2 := by
    have z : (sh k (farT ((⟨z0, r, s⟩ : Tl).E i) v m)).k.sum = k.sum + (farT ((⟨z0, r, s⟩ : Tl).E i) v m).k.sum := sum_add
    rw [z] at hl
    exact hl
  unfold ck at c
  dsimp only at c
  rw [if_neg (show v ≠ ((⟨z0, r, s⟩ : Tl).E i).2 from hv), if_pos hl'] at c
  constructor
  · intro q
    rw [if_pos q] at c
    simpa using c
  · intro q
    rw [if_neg q] at c
    simpa using c
theorem far_ok (h : t.Ok) {i : Nat} {v m : Int} (v0 : 0 ≤ v) (v4 : v ≤ 4) (hv : v ≠ (t.E i).2) (hl : (farT (t.E i) v m).k.sum = 1 ∨ (farT (t.E i) v m).k.sum = 2) : (farT (t.E i) v m).Ok := by
  obtain ⟨j0, j4⟩ := E_rng h i
  refine ⟨hl, ?_, ?_, ?_⟩
  · show 0 ≤ lo _ _
    unfold lo
    split <;> omega
  · show lo _ _ < K92.hi _ _
    unfold lo K92.hi
    split <;> split <;> omega
  · show K92.hi _ _ ≤ 4
    unfold K92.hi
    split <;> omega
end
end K92
set_option Elab.async false
set_option linter.all false
set_option maxHeartbeats 400000
set_option maxRecDepth 100000
namespace K92
/-! ### the sign of n + b w, w the square root of 5 -/
def sgn (n b : Int) : Int :=
  if 0 ≤ n ∧ 0 ≤ b then (if 0 < n ∨ 0 < b then 1 else 0) else if n ≤ 0 ∧ b ≤ 0 then -1 else if 0 < n then (if 5 * b * b < n * n then 1 else -1) else (if n * n < 5 * b * b then 1 else -1)
theorem root5 : ∀ (k : Nat) (n b : Nat), n ≤ k → n * n = 5 * (b * b) → n = 0
  | 0, n, b, h, _ => by omega
  | k + 1, n, b, h, e => by
    have h5 : n % 5 = 0 := by
      have : (n * n) % 5 = 0 := by omega
      rw [Nat.mul_mod] at this
      have l : n % 5 < 5 := Nat.mod_lt _ (by decide)
      generalize n % 5 = r at *
      match r, l with
      | 0, _ => rfl
      | 1, _ => simp at this
      | 2, _ => simp at this
      | 3, _ => simp at this
      | 4, _ => simp at this
    obtain ⟨m, rfl⟩ : ∃ m, n = 5 * m := ⟨n / 5, by omega⟩
    have e2 : b * b = 5 * (m * m) := by
      have : 5 * m * (5 * m) = 25 * (m * m) := by rw [Nat.mul_mul_mul_comm]
      omega
    by_cases hm0 : m = 0
    · omega
    · have hb : b ≤ 5 * m - 1 := by
        by_cases hb : b ≤ 5 * m - 1
        · exact hb
        · have h1 : 5 * m ≤ b := by omega
          have h2 := Nat.mul_le_mul h1 h1
          have : 5 * m * (5 * m) = 25 * (m * m) := by rw [Nat.mul_mul_mul_comm]
          have p : 0 < m * m := Nat.mul_pos (by omega) (by omega)
          omega
      have hb0 := root5 k b m (by omega) e2
      subst hb0
      have p : 0 < m * m := Nat.mul_pos (by omega) (by omega)
      omega
theorem noroot {n b : Int} (h : n * n = 5 * b * b) : n = 0 ∧ b = 0 := by
  have e : n.natAbs * n.natAbs = 5 * (b.natAbs * b.natAbs) := by
    have h1 : ((n.natAbs * n.natAbs : Nat) : Int) = n * n := Int.natAbs_mul_self
    have h2 : ((b.natAbs * b.natAbs : Nat) : Int) = b * b := Int.natAbs_mul_self
    have : 5 * b * b = 5 * (b * b) := Int.mul_assoc 5 b b
    omega
  have z := root5 _ _ _ (Nat.le_refl _) e
  have hn : n = 0 := by omega
  subst hn
  refine ⟨rfl, ?_⟩
  rw [z] at e
  have : b.natAbs * b.natAbs = 0 := by omega
  rcases Nat.mul_eq_zero.mp this with q | q <;> omega
theorem sgn_neg (n b : Int) : sgn (-n) (-b) = -(sgn n b) := by
  have nr := @noroot n b
  have e1 : -n * -n = n * n := Int.neg_mul_neg n n
  have e2 : 5 * -b * -b = 5 * b * b := by rw [Int.mul_assoc, Int.neg_mul_neg, ← Int.mul_assoc]
  unfold sgn
  rw [e1, e2]
  (repeat' split) <;> omega
theorem sgn3 (n b : Int) : sgn n b = -1 ∨ sgn n b = 0 ∨ sgn n b = 1 := by
  unfold sgn
  (repeat' split) <;> omega
theorem sgn_zero {n b : Int} (h : sgn n b = 0) : n = 0 ∧ b = 0 := by
  unfold sgn at h
  repeat' split at h
  all_goals first | omega | (constructor <;> omega)
/-- at least 0 -/
def Ps (n b : Int) : Prop := (0 ≤ n ∧ 0 ≤ b) ∨ (0 < n ∧ b < 0 ∧ 5 * b * b < n * n) ∨ (n < 0 ∧ 0 < b ∧ n * n < 5 * b * b)
theorem ps_iff {n b : Int} : 0 ≤ sgn n b ↔ Ps n b := by
  unfold sgn Ps
  (repeat' split) <;> omega
theorem sq_le {a b : Int} (h0 : 0 ≤ a) (h : a ≤ b) : a * a ≤ b * b := Int.mul_le_mul h h h0 (by omega)
theorem sq5 {b : Int} : 5 * b * b = 5 * (b * b) := Int.mul_assoc _ _ _
theorem ps_add {n b m c : Int} (h : 0 ≤ sgn n b) (hm : 0 ≤ m) (hc : 0 ≤ c) : 0 ≤ sgn (n + m) (b + c) := by
  rw [ps_iff] at h ⊢
  unfold Ps at *
  rw [sq5] at *
  rcases h with ⟨h1, h2⟩ | ⟨h1, h2, h3⟩ | ⟨h1, h2, h3⟩
  · left; omega
  · by_cases z : 0 ≤ b + c
    · left; omega
    · right; left
      have e1 : (b + c) * (b + c) ≤ b * b := by
        have := sq_le (a := -(b + c)) (b := -b) (by omega) (by omega)
        rw [Int.neg_mul_neg, Int.neg_mul_neg] at this
        exact this
      have e2 : n * n ≤ (n + m) * (n + m) := sq_le (by omega) (by omega)
      exact ⟨by omega, by omega, by omega⟩
  · by_cases z : 0 ≤ n + m
    · left; omega
    · right; right
      have e1 : (n + m) * (n + m) ≤ n * n := by
        have := sq_le (a := -(n + m)) (b := -n) (by omega) (by omega)
        rw [Int.neg_mul_neg, Int.neg_mul_neg] at this
        exact this
      have e2 : b * b ≤ (b + c) * (b + c) := sq_le (by omega) (by omega)
      exact ⟨by omega, by omega, by omega⟩
theorem sgn_two (n b : Int) : sgn (2 * n) (2 * b) = sgn n b := by
  have e1 : 2 * n * (2 * n) = 4 * (n * n) := by grind
  have e2 : 5 * (2 * b) * (2 * b) = 4 * (5 * b * b) := by grind
  unfold sgn
  rw [e1, e2]
  (repeat' split) <;> omega
theorem sgn_root (n b : Int) : sgn (5 * b) n = sgn n b := by
  have nr := @noroot n b
  have e1 : 5 * b * (5 * b) = 5 * (5 * b * b) := by grind
  have e2 : 5 * n * n = 5 * (n * n) := sq5
  unfold sgn
  rw [e1, e2]
  (repeat' split) <;> omega
/-- of a + b g, g the golden ratio -/
def sg (a b : Int) : Int := sgn (2 * a + b) b
theorem sg_neg (a b : Int) : sg (-a) (-b) = -(sg a b) := by
  show sgn (2 * -a + -b) (-b) = _
  rw [show 2 * -a + -b = -(2 * a + b) by omega, sgn_neg]
  rfl
theorem sg_two (a b : Int) : sg (2 * a) (2 * b) = sg a b := by
  show sgn (2 * (2 * a) + 2 * b) (2 * b) = _
  rw [show 2 * (2 * a) + 2 * b = 2 * (2 * a + b) by omega, sgn_two]
  rfl
theorem sg_add {a b p q : Int} (h : 0 ≤ sg a b) (hp : 0 ≤ p) (hq : 0 ≤ q) : 0 ≤ sg (a + p) (b + q) := by
  show 0 ≤ sgn (2 * (a + p) + (b + q)) (b + q)
  rw [show 2 * (a + p) + (b + q) = 2 * a + b + (2 * p + q) by omega]
  exact ps_add h (by omega) hq
theorem sg_root (a b : Int) : sg (2 * b - a) (2 * a + b) = sg a b := by
  show sgn (2 * (2 * b - a) + (2 * a + b)) (2 * a + b) = sgn (2 * a + b) b
  rw [show 2 * (2 * b - a) + (2 * a + b) = 5 * b by omega, sgn_root]
theorem sg_pos {p q : Int} (hp : 0 ≤ p) (hq : 0 ≤ q) : 0 ≤ sg p q := by
  have z := sg_add (a := 0) (b := 0) (p := p) (q := q) (by decide) hp hq
  rw [Int.zero_add, Int.zero_add] at z
  exact z
/-- beside: by the law (of |v| - W), by the code (of v - W and of -v - W) -/
theorem beside {a b p q : Int} (hp : 0 ≤ p) (hq : 0 ≤ q) : (0 ≤ (if sg a b < 0 then sg (-a - p) (-b - q) else sg (a - p) (b - q))) ↔ (0 ≤ sg (a - p) (b - q) ∨ 0 ≤ sg (-a - p) (-b - q)) := by
  split
  · rename_i h
    constructor
    · exact .inr
    · rintro (z | z)
      · have y := sg_add z hp hq
        rw [show a - p + p = a by omega, show b - q + q = b by omega] at y
        omega
      · exact z
  · rename_i h
    constructor
    · exact .inl
    · rintro (z | z)
      · exact z
      · have y := sg_add z hp hq
        rw [show -a - p + p = -a by omega, show -b - q + q = -b by omega, sg_neg] at y
        have e : sg a b = 0 := by omega
        obtain ⟨e1, e2⟩ := sgn_zero (show sgn (2 * a + b) b = 0 from e)
        have ha : a = 0 := by omega
        subst e2 ha
        exact z
end K92
set_option Elab.async false
set_option linter.all false
set_option maxHeartbeats 400000
set_option maxRecDepth 100000
namespace K92
open PySem PySem.Spec L2 DL
variable {ξ : XT} {Q : D → Prop} {s2 : Slot}
theorem ifb {p q : Prop} [Decidable p] [Decidable q] {A B : Prop} (h1 : (p ↔ q) → A) (h2 : ¬ (p ↔ q) → B) : if (decide p == decide q) = true then A else B := by
  by_cases hp : p <;> by_cases hq : q
  · rw [decide_eq_true hp, decide_eq_true hq]; exact h1 ⟨fun _ => hq, fun _ => hp⟩
  · rw [decide_eq_true hp, decide_eq_false hq]; exact h2 fun z => hq (z.mp hp)
  · rw [decide_eq_false hp, decide_eq_true hq]; exact h2 fun z => hp (z.mpr hq)
  · rw [decide_eq_false hp, decide_eq_false hq]; exact h1 ⟨fun z => (hp z).elim, fun z => (hq z).elim⟩
abbrev B := 5000
theorem five5 {b : Int} (hb : Bd B b) : Bd (B + 3) (5 * b) := (Bd.mul (n := 3) Bd.lit hb).mono (by decide)
theorem bdn {a b : Int} (ha : Bd B a) (hb : Bd B b) : Bd (B + 3) (2 * a + b) := ((Bd.mul (n := 2) Bd.lit ha).mono (m := B + 2) (by decide)).add (hb.mono (by decide))
theorem e_sop {a b : Int} (ha : Bd B a) (hb : Bd B b) (h : Q (.int (sg a b))) : tf_sign_of_parts ξ [.int a, .int b] Q := by
  unfold sg at h
  have hn := bdn ha hb
  have nr := @noroot (2 * a + b) b
  refine ⟨Bd.cmul (n := 2) Bd.lit ha, ?_⟩
  refine ifd (fun h1 => ?_) (fun h1 => ?_)
  · refine ifd (fun h2 => ?_) (fun h2 => ?_)
    · refine ifd (fun h3 => ?_) (fun h3 => ?_)
      · (have e : sgn (2 * a + b) b = 1 := by (unfold sgn; (repeat' split) <;> first | rfl | omega)); rw [e] at h; exact h
      · refine ifd (fun h4 => ?_) (fun h4 => ?_)
        · (have e : sgn (2 * a + b) b = 1 := by (unfold sgn; (repeat' split) <;> first | rfl | omega)); rw [e] at h; exact h
        · (have e : sgn (2 * a + b) b = 0 := by (unfold sgn; (repeat' split) <;> first | rfl | omega)); rw [e] at h; exact h
    · refine ifd (fun h3 => ?_) (fun h3 => ?_)
      · refine ifd (fun h4 => ?_) (fun h4 => ?_)
        · (have e : sgn (2 * a + b) b = -1 := by (unfold sgn; (repeat' split) <;> first | rfl | omega)); rw [e] at h; exact h
        · omega
      · refine ⟨Bd.cmul hn hn, Bd.cmul (n := 3) Bd.lit hb, Bd.cmul (five5 hb) hb, ?_⟩
        refine ⟨⟨rfl, rfl⟩, ?_⟩
        refine ifb (fun h5 => ?_) (fun h5 => ?_)
        · (have e : sgn (2 * a + b) b = 1 := by (unfold sgn; (repeat' split) <;> first | rfl | omega)); rw [e] at h; exact h
        · (have e : sgn (2 * a + b) b = -1 := by (unfold sgn; (repeat' split) <;> first | rfl | omega)); rw [e] at h; exact h
  · refine ifd (fun h3 => ?_) (fun h3 => ?_)
    · refine ifd (fun h4 => ?_) (fun h4 => ?_)
      · (have e : sgn (2 * a + b) b = -1 := by (unfold sgn; (repeat' split) <;> first | rfl | omega)); rw [e] at h; exact h
      · refine ⟨Bd.cmul hn hn, Bd.cmul (n := 3) Bd.lit hb, Bd.cmul (five5 hb) hb, ?_⟩
        refine ⟨⟨rfl, rfl⟩, ?_⟩
        refine ifb (fun h5 => ?_) (fun h5 => ?_)
        · (have e : sgn (2 * a + b) b = 1 := by (unfold sgn; (repeat' split) <;> first | rfl | omega)); rw [e] at h; exact h
        · (have e : sgn (2 * a + b) b = -1 := by (unfold sgn; (repeat' split) <;> first | rfl | omega)); rw [e] at h; exact h
    · omega
theorem int_of {b : Bool} {P : D → Prop} (q : P (.int (if b = true then 1 else 0))) : gInt [.bl b] P := q
/-- the law's sign, by squares -/
theorem lawsgn {n b : Int} : sgn n b = (if 0 ≤ n * b then (if 0 < n + b then 1 else 0) - (if n + b < 0 then 1 else 0) else if 0 < (if 5 * b * b < n * n then n else b) then 1 else -1) := by
  have k1 : 0 ≤ n → 0 ≤ b → 0 ≤ n * b := Int.mul_nonneg
  have k2 : n ≤ 0 → b ≤ 0 → 0 ≤ n * b := fun h g => by
    have := Int.mul_nonneg (a := -n) (b := -b) (by omega) (by omega)
    rwa [Int.neg_mul_neg] at this
  have k3 : 0 < n → b < 0 → n * b < 0 := fun h g => Int.mul_neg_of_pos_of_neg h g
  have k4 : n < 0 → 0 < b → n * b < 0 := fun h g => Int.mul_neg_of_neg_of_pos h g
  have nr := @noroot n b
  unfold sgn
  (repeat' split) <;> omega
theorem e_lsign {a b : Int} (ha : Bd B a) (hb : Bd B b) (h : Q (.int (sg a b))) : tf__law_sign ξ [.int a, .int b] Q := by
  unfold sg at h
  rw [lawsgn] at h
  have hn := bdn ha hb
  refine ⟨Bd.cmul (n := 2) Bd.lit ha, Bd.cmul hn hb, ?_⟩
  refine ifd (fun h1 => ?_) (fun h1 => ?_)
  · rw [if_pos h1] at h
    show Q (.int ((if decide (0 < 2 * a + b + b) = true then 1 else 0) - (if decide (2 * a + b + b < 0) = true then 1 else 0)))
    simp only [decide_eq_true_eq]
    exact h
  · rw [if_neg h1] at h
    refine ⟨Bd.cmul hn hn, Bd.cmul (n := 3) Bd.lit hb, Bd.cmul (five5 hb) hb, ?_⟩
    refine ifd (fun h2 => ?_) (fun h2 => ?_)
    · rw [if_pos h2] at h
      refine ifd (fun h3 => ?_) (fun h3 => ?_)
      · rw [if_pos h3] at h; exact h
      · rw [if_neg h3] at h; exact h
    · rw [if_neg h2] at h
      refine ifd (fun h3 => ?_) (fun h3 => ?_)
      · rw [if_pos h3] at h; exact h
      · rw [if_neg h3] at h; exact h
end K92
set_option Elab.async false
set_option linter.all false
set_option maxHeartbeats 400000
set_option maxRecDepth 100000
namespace K92
open PySem PySem.Spec L2 DL
variable {ξ : XT} {Q : D → Prop}
/-! ### how far a row lies beside a direction: fa + ne g -/
def R5.at_ (k : R5) (j : Int) : Int := if j = 0 then k.a else if j = 1 then k.b else if j = 2 then k.c else if j = 3 then k.d else k.e
def fa (k : R5) (d : Int) : Int := k.at_ ((d + 2) % 5) - k.at_ ((d + 3) % 5)
def ne (k : R5) (d : Int) : Int := k.at_ ((d + 1) % 5) - k.at_ ((d + 4) % 5)
def fj (j d : Int) : Int := if (j - d) % 5 = 2 then 1 else if (j - d) % 5 = 3 then -1 else 0
def nj (j d : Int) : Int := if (j - d) % 5 = 1 then 1 else if (j - d) % 5 = 4 then -1 else 0
def wa (j d : Int) : Int := if (j - d) % 5 = 2 ∨ (j - d) % 5 = 3 then 1 else 0
def wb (j d : Int) : Int := if (j - d) % 5 = 1 ∨ (j - d) % 5 = 4 then 1 else 0
theorem fa_up {k : R5} {j d m : Int} (j0 : 0 ≤ j) (j4 : j ≤ 4) (d0 : 0 ≤ d) (d4 : d ≤ 4) : fa (k.up j m) d = fa k d + m * fj j d := by
  rcases five j0 j4 with rfl | rfl | rfl | rfl | rfl <;> rcases five d0 d4 with rfl | rfl | rfl | rfl | rfl <;> simp [fa, fj, R5.at_, R5.up, R5.st] <;> omega
theorem ne_up {k : R5} {j d m : Int} (j0 : 0 ≤ j) (j4 : j ≤ 4) (d0 : 0 ≤ d) (d4 : d ≤ 4) : ne (k.up j m) d = ne k d + m * nj j d := by
  rcases five j0 j4 with rfl | rfl | rfl | rfl | rfl <;> rcases five d0 d4 with rfl | rfl | rfl | rfl | rfl <;> simp [ne, nj, R5.at_, R5.up, R5.st] <;> omega
/-- the farthest corner -/
def fc1 (k : R5) (j d : Int) (up : Bool) : R5 := if inV (.int ((j - d) % 5)) (if up = true then [.int 1, .int 2] else [.int 3, .int 4]) = true then k.up j 1 else k
def fcr (t : Tl) (d : Int) (up : Bool) : R5 := fc1 (fc1 t.k t.r d up) t.s d up
theorem in2 {b : Int} : inV (.int b) [.int 1, .int 2] = (decide (1 ≤ b) && decide (b ≤ 2)) := by
  rw [Bool.eq_iff_iff]
  simp [inV, eqV]
  omega
theorem in34 {b : Int} : inV (.int b) [.int 3, .int 4] = (decide (3 ≤ b) && decide (b ≤ 4)) := by
  rw [Bool.eq_iff_iff]
  simp [inV, eqV]
  omega
section
variable {k : R5} {j d : Int} (j0 : 0 ≤ j) (j4 : j ≤ 4) (d0 : 0 ≤ d) (d4 : d ≤ 4)
include j0 j4 d0 d4
theorem fc1_fa {up : Bool} : 2 * fa (fc1 k j d up) d = 2 * fa k d + fj j d + (if up = true then wa j d else -(wa j d)) := by
  unfold fc1
  cases up
  · rw [if_neg Bool.false_ne_true, if_neg Bool.false_ne_true, in34]
    split
    · rename_i h
      rw [fa_up j0 j4 d0 d4]
      simp only [Bool.and_eq_true, decide_eq_true_eq] at h
      unfold fj wa
      (repeat' split) <;> omega
    · rename_i h
      simp only [Bool.and_eq_true, decide_eq_true_eq] at h
      unfold fj wa
      (repeat' split) <;> omega
  · rw [if_pos rfl, if_pos rfl, in2]
    split
    · rename_i h
      rw [fa_up j0 j4 d0 d4]
      simp only [Bool.and_eq_true, decide_eq_true_eq] at h
      unfold fj wa
      (repeat' split) <;> omega
    · rename_i h
      simp only [Bool.and_eq_true, decide_eq_true_eq] at h
      unfold fj wa
      (repeat' split) <;> omega
theorem fc1_ne {up : Bool} : 2 * ne (fc1 k j d up) d = 2 * ne k d + nj j d + (if up = true then wb j d else -(wb j d)) := by
  unfold fc1
  cases up
  · rw [if_neg Bool.false_ne_true, if_neg Bool.false_ne_true, in34]
    split
    · rename_i h
      rw [ne_up j0 j4 d0 d4]
      simp only [Bool.and_eq_true, decide_eq_true_eq] at h
      unfold nj wb
      (repeat' split) <;> omega
    · rename_i h
      simp only [Bool.and_eq_true, decide_eq_true_eq] at h
      unfold nj wb
      (repeat' split) <;> omega
  · rw [if_pos rfl, if_pos rfl, in2]
    split
    · rename_i h
      rw [ne_up j0 j4 d0 d4]
      simp only [Bool.and_eq_true, decide_eq_true_eq] at h
      unfold nj wb
      (repeat' split) <;> omega
    · rename_i h
      simp only [Bool.and_eq_true, decide_eq_true_eq] at h
      unfold nj wb
      (repeat' split) <;> omega
end
theorem fcr_fa {t : Tl} (h : t.Ok) {d : Int} (d0 : 0 ≤ d) (d4 : d ≤ 4) {up : Bool} : 2 * fa (fcr t d up) d = 2 * fa t.k d + fj t.r d + fj t.s d + (if up = true then wa t.r d + wa t.s d else -(wa t.r d + wa t.s d)) := by
  have e1 := fc1_fa (k := fc1 t.k t.r d up) h.s0 h.s4 d0 d4 (up := up)
  have e2 := fc1_fa (k := t.k) h.r0 h.r4 d0 d4 (up := up)
  unfold fcr
  cases up
  · simp only [Bool.false_eq_true, if_false] at *; omega
  · simp only [if_true] at *; omega
theorem fcr_ne {t : Tl} (h : t.Ok) {d : Int} (d0 : 0 ≤ d) (d4 : d ≤ 4) {up : Bool} : 2 * ne (fcr t d up) d = 2 * ne t.k d + nj t.r d + nj t.s d + (if up = true then wb t.r d + wb t.s d else -(wb t.r d + wb t.s d)) := by
  have e1 := fc1_ne (k := fc1 t.k t.r d up) h.s0 h.s4 d0 d4 (up := up)
  have e2 := fc1_ne (k := t.k) h.r0 h.r4 d0 d4 (up := up)
  unfold fcr
  cases up
  · simp only [Bool.false_eq_true, if_false] at *; omega
  · simp only [if_true] at *; omega
end K92
set_option Elab.async false
set_option linter.all false
set_option maxHeartbeats 400000
set_option maxRecDepth 100000
namespace K92
open PySem PySem.Spec L2 DL
variable {ξ : XT} {Q : D → Prop}
/-! ### beside, by the code -/
def two (up : Bool) : D := .tup (if up = true then [.int 1, .int 2] else [.int 3, .int 4])
abbrev FB1 : TDS := (dIfS (dTest (dBin (gInD false) (dBin gMod (dBin gSub (dVar 4) (dVar 1)) (dC (.int 5))) (dVar 2)))
    (dAsg (dCall 3 tf_stepped (dCons (dVar 3) (dCons (dVar 4) (dCons (dC (.int 1)) dNil)))) (dgName 3))
    dNext)
theorem inD_int {b x y : Int} : inD (.int b) [.int x, .int y] = inV (.int b) [.int x, .int y] := by
  rw [Bool.eq_iff_iff]
  simp [inD, toPs, toP, PyData.eqv, inV, eqV]
theorem inD_two {b : Int} {up : Bool} {P : D → Prop} (q : P (.bl (inV (.int b) (if up = true then [.int 1, .int 2] else [.int 3, .int 4])))) : gInD false (.int b) (two up) P := by
  cases up
  · refine ⟨⟨rfl, by decide +kernel⟩, ?_⟩
    show P (.bl (inD (.int b) [.int 3, .int 4]))
    rw [inD_int]
    exact q
  · refine ⟨⟨rfl, by decide +kernel⟩, ?_⟩
    show P (.bl (inD (.int b) [.int 1, .int 2]))
    rw [inD_int]
    exact q
structure Bk (n : Nat) (k : R5) : Prop where
  a : Bd n k.a
  b : Bd n k.b
  c : Bd n k.c
  d : Bd n k.d
  e : Bd n k.e
theorem Bk.at_ {n : Nat} {k : R5} (h : Bk n k) {j : Int} : Bd n (k.at_ j) := by
  unfold R5.at_
  (repeat' split) <;> first | exact h.a | exact h.b | exact h.c | exact h.d | exact h.e
theorem st_bn {n : Nat} {x r j m : Int} (hm : Bd 2 m) (hn : 2 ≤ n) (h : Bd n x) : Bd (n + 1) (R5.st x r j m) := by
  unfold R5.st
  split
  · exact h.add (hm.mono hn)
  · exact h.mono (by omega)
theorem Bk.up {n : Nat} {k : R5} {j m : Int} (h : Bk n k) (hm : Bd 2 m) (hn : 2 ≤ n) : Bk (n + 1) (k.up j m) := ⟨st_bn hm hn h.a, st_bn hm hn h.b, st_bn hm hn h.c, st_bn hm hn h.d, st_bn hm hn h.e⟩
theorem Bk.mono {n m : Nat} {k : R5} (h : Bk n k) (hn : n ≤ m) : Bk m k := ⟨h.a.mono hn, h.b.mono hn, h.c.mono hn, h.d.mono hn, h.e.mono hn⟩
theorem Bk.ite {n : Nat} {c : Prop} [Decidable c] {x y : R5} (h1 : Bk n x) (h2 : Bk n y) : Bk n (if c then x else y) := by
  split
  · exact h1
  · exact h2
theorem one2 : Bd 2 (1 : Int) := .lit (by decide)
section
variable {De : DEnds} {ζ : XW} {t u : Tl} {d : Int} {up : Bool}
theorem far_turn {k : R5} {j : Int} {s0 : Slot} (j0 : 0 ≤ j) (j4 : j ≤ 4) (h : De.nx [s0, .d (.int d), .d (two up), .d (fc1 k j d up).D, .d (.int j)]) : FB1 ζ De [s0, .d (.int d), .d (two up), .d k.D, .d (.int j)] := by
  have z : gInD false (.int ((j - d) % 5)) (two up) (fun x => match x with | .bl b => (if b = true then (dAsg (dCall 3 tf_stepped (dCons (dVar 3) (dCons (dVar 4) (dCons (dC (.int 1)) dNil)))) (dgName 3)) ζ De [s0, .d (.int d), .d (two up), .d k.D, .d (.int j)] else De.nx [s0, .d (.int d), .d (two up), .d k.D, .d (.int j)]) | _ => False) := by
    refine inD_two ?_
    unfold fc1 at h
    cases hb : inV (.int ((j - d) % 5)) (if up = true then [.int 1, .int 2] else [.int 3, .int 4]) with
    | true =>
      rw [hb] at h
      exact ⟨rfl, e_stepped j0 j4 h⟩
    | false =>
      rw [hb] at h
      exact h
  exact ⟨p5, z⟩
theorem far_loop {De : DEnds} (h : t.Ok) {s4 : Slot} (q : ∀ s4, De.nx [.d t.D, .d (.int d), .d (two up), .d (fcr t d up).D, s4]) : forD (dgName 4) FB1 ζ De [.int t.r, .int t.s] [.d t.D, .d (.int d), .d (two up), .d t.k.D, s4] := by
  refine far_turn (De := { De with nx := forD (dgName 4) FB1 ζ De [.int t.s], ct := forD (dgName 4) FB1 ζ De [.int t.s], bk := De.nx }) h.r0 h.r4 ?_
  exact far_turn (De := { De with nx := forD (dgName 4) FB1 ζ De [], ct := forD (dgName 4) FB1 ζ De [], bk := De.nx }) h.s0 h.s4 (q _)
theorem szN2 : 2 ≤ sizeLine := szN 2
theorem e_far (h : t.Ok) (q : Q (fcr t d up).D) : tf__far_corner ξ [t.D, .int d, two up] Q := by
  have z : forD (dgName 4) FB1 (fun _ _ => False) { nx := fun env => (dRet (dVar 3)) (fun _ _ => False) { nx := fun _ => Q .non, rt := Q } env, rt := Q } [.int t.r, .int t.s] [.d t.D, .d (.int d), .d (two up), .d t.k.D, .un] := far_loop h fun _ => q
  exact z
theorem fcr_bk {n : Nat} (h : Bk n t.k) (hn : 2 ≤ n) : Bk (n + 2) (fcr t d up) := by
  have f : ∀ {k : R5} {m : Nat} {j : Int}, Bk m k → 2 ≤ m → Bk (m + 1) (fc1 k j d up) := by
    intro k m j b hm
    unfold fc1
    exact .ite (b.up one2 hm) (b.mono (by omega))
  exact f (f h hn) (by omega)
def R5.sub (k l : R5) : R5 := ⟨k.a - l.a, k.b - l.b, k.c - l.c, k.d - l.d, k.e - l.e⟩
theorem Bk.sub {n : Nat} {k l : R5} (h : Bk n k) (g : Bk n l) : Bk (n + 1) (k.sub l) := ⟨h.a.sub g.a, h.b.sub g.b, h.c.sub g.c, h.d.sub g.d, h.e.sub g.e⟩
theorem Bk.fa {n : Nat} {k : R5} (h : Bk n k) : Bd (n + 1) (fa k d) := h.at_.sub h.at_
theorem Bk.ne {n : Nat} {k : R5} (h : Bk n k) : Bd (n + 1) (ne k d) := h.at_.sub h.at_
/-- no corner of t lies further beside d than any corner of u -/
def bes (t u : Tl) (d : Int) : Bool := decide (0 ≤ sg (fa ((fcr u d false).sub (fcr t d true)) d) (ne ((fcr u d false).sub (fcr t d true)) d))
def lstD (k : R5) : D := .lst [.int k.a, .int k.b, .int k.c, .int k.d, .int k.e]
abbrev TB : TDS := (dSeq (dAsg (dBin gSub (dBin gIx (dVar 5) (dBin gMod (dBin gAddA (dVar 2) (dC (.int 1))) (dC (.int 5)))) (dBin gIx (dVar 5) (dBin gSub (dVar 2) (dC (.int 1))))) (dgName 8))
    (dSeq (dAsg (dBin gSub (dBin gIx (dVar 5) (dBin gMod (dBin gAddA (dVar 2) (dC (.int 2))) (dC (.int 5)))) (dBin gIx (dVar 5) (dBin gSub (dVar 2) (dC (.int 2))))) (dgName 9))
    (dRet (dBin gGe (dCall 2 tf_sign_of_parts (dCons (dVar 9) (dCons (dVar 8) dNil))) (dC (.int 0))))))
theorem e_tb {k : R5} {s0 s1 s3 s4 s6 s7 s8 s9 : Slot} (b : Bk 900 k) (d0 : 0 ≤ d) (d4 : d ≤ 4) (q : De.rt (.bl (decide (0 ≤ sg (fa k d) (ne k d))))) : TB ζ De [s0, s1, .d (.int d), s3, s4, .d (lstD k), s6, s7, s8, s9] := by
  have b1 : Bd B (fa k d) := b.fa.mono (by decide)
  have b2 : Bd B (ne k d) := b.ne.mono (by decide)
  rcases five d0 d4 with rfl | rfl | rfl | rfl | rfl
  · exact ⟨p5, p5, rfl, e_sop b1 b2 q⟩
  · exact ⟨p5, p5, rfl, e_sop b1 b2 q⟩
  · exact ⟨p5, p5, rfl, e_sop b1 b2 q⟩
  · exact ⟨p5, p5, rfl, e_sop b1 b2 q⟩
  · exact ⟨p5, p5, rfl, e_sop b1 b2 q⟩
theorem e_bes (ht : t.Ok) (hu : u.Ok) (bt : Bk 800 t.k) (bu : Bk 800 u.k) (d0 : 0 ≤ d) (d4 : d ≤ 4) (q : Q (.bl (bes t u d))) : tf__is_beside ξ [t.D, u.D, .int d] Q := by
  refine ⟨szN 2, rfl, e_far (up := true) ht ⟨szN 2, rfl, e_far (up := false) hu ⟨⟨rfl, szN 5⟩, ?_⟩⟩⟩
  have z := e_tb (De := { nx := fun _ => Q .non, rt := Q }) (ζ := fun _ _ => False) (k := (fcr u d false).sub (fcr t d true)) (s0 := .d t.D) (s1 := .d u.D) (s3 := .d (fcr t d true).D) (s4 := .d (fcr u d false).D) (s6 := .un) (s7 := .un) (s8 := .un) (s9 := .un) (((fcr_bk bu (by decide)).sub (fcr_bk bt (by decide))).mono (by decide)) d0 d4 q
  exact ⟨rfl, rfl, rfl, rfl, rfl, z⟩
end
end K92
set_option Elab.async false
set_option linter.all false
set_option maxHeartbeats 400000
set_option maxRecDepth 100000
namespace K92
open PySem PySem.Spec L2 DL
variable {ξ : XT} {Q : D → Prop}
/-! ### overlapping, by the law and by the code -/
def R5.dbl (k l : R5) : R5 := ⟨2 * (l.a - k.a), 2 * (l.b - k.b), 2 * (l.c - k.c), 2 * (l.d - k.d), 2 * (l.e - k.e)⟩
def away (t u : Tl) : R5 := ((((t.k.dbl u.k).up t.r (-1)).up t.s (-1)).up u.r 1).up u.s 1
section
variable {k l : R5} {d : Int}
theorem fa_sub (d0 : 0 ≤ d) (d4 : d ≤ 4) : fa (k.sub l) d = fa k d - fa l d := by
  rcases five d0 d4 with rfl | rfl | rfl | rfl | rfl <;> simp [fa, R5.at_, R5.sub] <;> omega
theorem ne_sub (d0 : 0 ≤ d) (d4 : d ≤ 4) : ne (k.sub l) d = ne k d - ne l d := by
  rcases five d0 d4 with rfl | rfl | rfl | rfl | rfl <;> simp [ne, R5.at_, R5.sub] <;> omega
theorem fa_dbl (d0 : 0 ≤ d) (d4 : d ≤ 4) : fa (k.dbl l) d = 2 * (fa l d - fa k d) := by
  rcases five d0 d4 with rfl | rfl | rfl | rfl | rfl <;> simp [fa, R5.at_, R5.dbl] <;> omega
theorem ne_dbl (d0 : 0 ≤ d) (d4 : d ≤ 4) : ne (k.dbl l) d = 2 * (ne l d - ne k d) := by
  rcases five d0 d4 with rfl | rfl | rfl | rfl | rfl <;> simp [ne, R5.at_, R5.dbl] <;> omega
end
section
variable {t u : Tl} {d : Int}
def pW (t u : Tl) (d : Int) : Int := wa t.r d + wa t.s d + wa u.r d + wa u.s d
def qW (t u : Tl) (d : Int) : Int := wb t.r d + wb t.s d + wb u.r d + wb u.s d
def lbes (t u : Tl) (d : Int) : Bool := decide (0 ≤ (if sg (fa (away t u) d) (ne (away t u) d) < 0 then sg (-(fa (away t u) d) - pW t u d) (-(ne (away t u) d) - qW t u d) else sg (fa (away t u) d - pW t u d) (ne (away t u) d - qW t u d)))
theorem away_fa (ht : t.Ok) (hu : u.Ok) (d0 : 0 ≤ d) (d4 : d ≤ 4) : fa (away t u) d = 2 * (fa u.k d - fa t.k d) - fj t.r d - fj t.s d + fj u.r d + fj u.s d := by
  unfold away
  rw [fa_up hu.s0 hu.s4 d0 d4, fa_up hu.r0 hu.r4 d0 d4, fa_up ht.s0 ht.s4 d0 d4, fa_up ht.r0 ht.r4 d0 d4, fa_dbl d0 d4]
  omega
theorem away_ne (ht : t.Ok) (hu : u.Ok) (d0 : 0 ≤ d) (d4 : d ≤ 4) : ne (away t u) d = 2 * (ne u.k d - ne t.k d) - nj t.r d - nj t.s d + nj u.r d + nj u.s d := by
  unfold away
  rw [ne_up hu.s0 hu.s4 d0 d4, ne_up hu.r0 hu.r4 d0 d4, ne_up ht.s0 ht.s4 d0 d4, ne_up ht.r0 ht.r4 d0 d4, ne_dbl d0 d4]
  omega
theorem wa0 (j : Int) : 0 ≤ wa j d := by unfold wa; split <;> omega
theorem wb0 (j : Int) : 0 ≤ wb j d := by unfold wb; split <;> omega
theorem lb_eq (ht : t.Ok) (hu : u.Ok) (d0 : 0 ≤ d) (d4 : d ≤ 4) : lbes t u d = (bes t u d || bes u t d) := by
  have p0 : 0 ≤ pW t u d := by
    have := wa0 (d := d) t.r
    have := wa0 (d := d) t.s
    have := wa0 (d := d) u.r
    have := wa0 (d := d) u.s
    unfold pW; omega
  have q0 : 0 ≤ qW t u d := by
    have := wb0 (d := d) t.r
    have := wb0 (d := d) t.s
    have := wb0 (d := d) u.r
    have := wb0 (d := d) u.s
    unfold qW; omega
  have A := away_fa ht hu d0 d4
  have N := away_ne ht hu d0 d4
  have f1 := fcr_fa hu d0 d4 (up := false)
  have f2 := fcr_fa ht d0 d4 (up := true)
  have f3 := fcr_fa ht d0 d4 (up := false)
  have f4 := fcr_fa hu d0 d4 (up := true)
  have n1 := fcr_ne hu d0 d4 (up := false)
  have n2 := fcr_ne ht d0 d4 (up := true)
  have n3 := fcr_ne ht d0 d4 (up := false)
  have n4 := fcr_ne hu d0 d4 (up := true)
  simp only [Bool.false_eq_true, if_false, if_true] at f1 f2 f3 f4 n1 n2 n3 n4
  have e1 : sg (fa (away t u) d - pW t u d) (ne (away t u) d - qW t u d) = sg (fa ((fcr u d false).sub (fcr t d true)) d) (ne ((fcr u d false).sub (fcr t d true)) d) := by
    rw [← sg_two (fa ((fcr u d false).sub (fcr t d true)) d), fa_sub d0 d4, ne_sub d0 d4]
    unfold pW qW
    congr 1 <;> omega
  have e2 : sg (-(fa (away t u) d) - pW t u d) (-(ne (away t u) d) - qW t u d) = sg (fa ((fcr t d false).sub (fcr u d true)) d) (ne ((fcr t d false).sub (fcr u d true)) d) := by
    rw [← sg_two (fa ((fcr t d false).sub (fcr u d true)) d), fa_sub d0 d4, ne_sub d0 d4]
    unfold pW qW
    congr 1 <;> omega
  unfold lbes bes
  rw [← e1, ← e2, Bool.eq_iff_iff, decide_eq_true_eq, Bool.or_eq_true, decide_eq_true_eq, decide_eq_true_eq]
  exact beside p0 q0
/-- the same tile -/
theorem w_pos {j : Int} (h0 : 0 ≤ j) (h4 : j ≤ 4) (d0 : 0 ≤ d) (d4 : d ≤ 4) (h : j ≠ d) : 1 ≤ wa j d + wb j d := by
  unfold wa wb
  (repeat' split) <;> omega
theorem lb_self (ht : t.Ok) (d0 : 0 ≤ d) (d4 : d ≤ 4) : lbes t t d = false := by
  have A := away_fa ht ht d0 d4
  have N := away_ne ht ht d0 d4
  have A0 : fa (away t t) d = 0 := by omega
  have N0 : ne (away t t) d = 0 := by omega
  have r1 := wa0 (d := d) t.r
  have r2 := wa0 (d := d) t.s
  have r3 := wb0 (d := d) t.r
  have r4 := wb0 (d := d) t.s
  have w : 1 ≤ pW t t d + qW t t d := by
    unfold pW qW
    have h := ht.rs
    by_cases e : t.r = d
    · have := w_pos ht.s0 ht.s4 d0 d4 (by omega)
      omega
    · have := w_pos ht.r0 ht.r4 d0 d4 e
      omega
  have p0 : 0 ≤ pW t t d := by unfold pW; omega
  have q0 : 0 ≤ qW t t d := by unfold qW; omega
  unfold lbes
  rw [A0, N0, if_neg (by decide), Int.zero_sub, Int.zero_sub, sg_neg]
  have z := sg_pos p0 q0
  rw [decide_eq_false]
  intro y
  have e : sg (pW t t d) (qW t t d) = 0 := by omega
  obtain ⟨e1, e2⟩ := sgn_zero (show sgn (2 * pW t t d + qW t t d) (qW t t d) = 0 from e)
  omega
def dirs (t u : Tl) : List Int := [t.r, t.s, u.r, u.s]
theorem dirs_rng (ht : t.Ok) (hu : u.Ok) : ∀ d ∈ dirs t u, 0 ≤ d ∧ d ≤ 4 := by
  unfold dirs
  simp only [List.mem_cons, List.not_mem_nil, or_false, forall_eq_or_imp, forall_eq]
  exact ⟨⟨ht.r0, ht.r4⟩, ⟨ht.s0, ht.s4⟩, ⟨hu.r0, hu.r4⟩, ⟨hu.s0, hu.s4⟩⟩
def ovL (t u : Tl) : Bool := !(dirs t u).any fun d => lbes t u d
def ovC (t u : Tl) : Bool := decide (t = u) || !(dirs t u).any fun d => bes t u d || bes u t d
theorem any_eq {f g : Int → Bool} : ∀ {l : List Int}, (∀ d ∈ l, f d = g d) → l.any f = l.any g
  | [], _ => rfl
  | d :: l, h => by
    rw [List.any_cons, List.any_cons, h d List.mem_cons_self, any_eq fun e m => h e (List.mem_cons_of_mem _ m)]
theorem any_no {f : Int → Bool} : ∀ {l : List Int}, (∀ d ∈ l, f d = false) → l.any f = false
  | [], _ => rfl
  | d :: l, h => by
    rw [List.any_cons, h d List.mem_cons_self, any_no fun e m => h e (List.mem_cons_of_mem _ m)]
    rfl
theorem ov_eq (ht : t.Ok) (hu : u.Ok) : ovC t u = ovL t u := by
  unfold ovC ovL
  have e : (dirs t u).any (fun d => lbes t u d) = (dirs t u).any (fun d => bes t u d || bes u t d) := any_eq fun d m => lb_eq ht hu (dirs_rng ht hu d m).1 (dirs_rng ht hu d m).2
  by_cases h : t = u
  · subst h
    rw [decide_eq_true rfl, any_no fun d m => lb_self ht (dirs_rng ht ht d m).1 (dirs_rng ht ht d m).2]
    rfl
  · rw [decide_eq_false h, e]
    rfl
end
end K92
set_option Elab.async false
set_option linter.all false
set_option maxHeartbeats 400000
set_option maxRecDepth 100000
namespace K92
open PySem PySem.Spec L2 DL
variable {ξ : XT} {Q : D → Prop}
/-! ### do_overlap -/
theorem eqv_T (x y : Tl) : PyData.eqv (toP x.D) (toP y.D) = decide (x = y) := by
  obtain ⟨⟨a, b, c, d, e⟩, r, s⟩ := x
  obtain ⟨⟨a', b', c', d', e'⟩, r', s'⟩ := y
  rw [Bool.eq_iff_iff]
  simp [Tl.D, R5.D, toP, toPs, PyData.eqv, PyData.eqvAll, Tl.mk.injEq, R5.mk.injEq, and_assoc]
theorem eqOk_T (x : Tl) : eqOk x.D = true := by
  simp [eqOk, Tl.D, R5.D, DL.plain, plains, toP, toPs, SeqAt.shaped, PyData.canLay0, PyData.canLayAll0, PyData.depth, PyData.depthAll]
theorem eqT {x y : Tl} (q : Q (.bl (decide (x = y)))) : gEq x.D y.D Q := by
  show (eqOk x.D = true ∧ eqOk y.D = true) ∧ Q (.bl (PyData.eqv (toP x.D) (toP y.D)))
  rw [eqv_T]
  exact ⟨⟨eqOk_T x, eqOk_T y⟩, q⟩
section
variable {t u : Tl} {De : DEnds} {ζ : XW} {U : TDS} {s2 : Slot}
abbrev OB : TDS := (dIfS (dtOr (dTest (dCall 3 tf__is_beside (dCons (dVar 0) (dCons (dVar 1) (dCons (dVar 2) dNil))))) (dTest (dCall 3 tf__is_beside (dCons (dVar 1) (dCons (dVar 0) (dCons (dVar 2) dNil))))))
    (dRet (dC (.bl false)))
    dNext)
theorem o_turn {d : Int} (ht : t.Ok) (hu : u.Ok) (bt : Bk 800 t.k) (bu : Bk 800 u.k) (d0 : 0 ≤ d) (d4 : d ≤ 4) (q1 : (bes t u d || bes u t d) = true → De.rt (.bl false)) (q2 : (bes t u d || bes u t d) = false → De.nx [.d t.D, .d u.D, .d (.int d)]) : OB ζ De [.d t.D, .d u.D, .d (.int d)] := by
  refine ⟨rfl, e_bes ht hu bt bu d0 d4 ?_⟩
  cases h1 : bes t u d with
  | true =>
    rw [h1] at q1
    exact q1 rfl
  | false =>
    rw [h1] at q1 q2
    refine ⟨rfl, e_bes hu ht bu bt d0 d4 ?_⟩
    cases h2 : bes u t d with
    | true =>
      rw [h2] at q1
      exact q1 rfl
    | false =>
      rw [h2] at q2
      exact q2 rfl
theorem for_cons {B : TDS} {De : DEnds} {x : D} {xs : List D} {env : SE} {i : Nat} (h : B ζ { De with nx := forD (dgName i) B ζ De xs, ct := forD (dgName i) B ζ De xs, bk := De.nx } (env.set i (.d x))) : forD (dgName i) B ζ De (x :: xs) env := h
theorem o_loop (ht : t.Ok) (hu : u.Ok) (bt : Bk 800 t.k) (bu : Bk 800 u.k) : ∀ {ds : List Int} {De : DEnds} {s2 : Slot}, (∀ d ∈ ds, 0 ≤ d ∧ d ≤ 4) → ((ds.any fun d => bes t u d || bes u t d) = true → De.rt (.bl false)) → ((ds.any fun d => bes t u d || bes u t d) = false → ∀ s2, De.nx [.d t.D, .d u.D, s2]) → forD (dgName 2) OB ζ De (ds.map D.int) [.d t.D, .d u.D, s2]
  | [], De, s2, _, _, q2 => q2 rfl _
  | d :: ds, De, s2, h, q1, q2 => by
    obtain ⟨d0, d4⟩ := h d List.mem_cons_self
    rw [List.any_cons] at q1 q2
    have r : ∀ s2, (bes t u d || bes u t d) = false → forD (dgName 2) OB ζ De (ds.map D.int) [.d t.D, .d u.D, s2] := fun s2 e => by
      rw [e, Bool.false_or] at q1 q2
      exact o_loop ht hu bt bu (fun e m => h e (List.mem_cons_of_mem _ m)) q1 q2
    have r1 : (bes t u d || bes u t d) = true → De.rt (.bl false) := fun e => by
      rw [e, Bool.true_or] at q1
      exact q1 rfl
    have z := o_turn (ζ := ζ) (De := { De with nx := forD (dgName 2) OB ζ De (ds.map D.int), ct := forD (dgName 2) OB ζ De (ds.map D.int), bk := De.nx }) ht hu bt bu d0 d4 r1 (fun e => r _ e)
    exact for_cons z
abbrev OT : TDS := (dSeq (dForT (dBin gAddA (dSl (dVar 0) (dPart (dC (.int 1))) dNoPart) (dSl (dVar 1) (dPart (dC (.int 1))) dNoPart)) (dgName 2) OB)
    (dRet (dC (.bl true))))
theorem o_tail (ht : t.Ok) (hu : u.Ok) (bt : Bk 800 t.k) (bu : Bk 800 u.k) (q : De.rt (.bl (!(dirs t u).any fun d => bes t u d || bes u t d))) : OT ζ De [.d t.D, .d u.D, s2] := by
  have z : forD (dgName 2) OB ζ { De with nx := (dRet (dC (.bl true))) ζ De } [.int t.r, .int t.s, .int u.r, .int u.s] [.d t.D, .d u.D, s2] := o_loop (ds := dirs t u) ht hu bt bu (dirs_rng ht hu) (fun e => by rw [e] at q; exact q) (fun e _ => by rw [e] at q; exact q)
  exact ⟨szN 4, z⟩
theorem o_if (h1 : t = u → De.rt (.bl true)) (h2 : t ≠ u → U ζ De [.d t.D, .d u.D, s2]) : dSeq (dIfS (dTest (dBin gEq (dVar 0) (dVar 1))) (dRet (dC (.bl true))) dNext) U ζ De [.d t.D, .d u.D, s2] := by
  have z : gEq t.D u.D (fun d => match d with | .bl b => (if b = true then De.rt (.bl true) else U ζ De [.d t.D, .d u.D, s2]) | _ => False) := by
    refine eqT ?_
    by_cases e : t = u
    · rw [decide_eq_true e]
      exact h1 e
    · rw [decide_eq_false e]
      exact h2 e
  exact z
theorem e_ov (ht : t.Ok) (hu : u.Ok) (bt : Bk 800 t.k) (bu : Bk 800 u.k) (q : Q (.bl (ovC t u))) : tf_do_overlap ξ [t.D, u.D] Q := by
  refine ⟨rfl, e_needT (pd_T t) (need ht) fun _ => ⟨rfl, e_needT (pd_T u) (need hu) fun _ => ?_⟩⟩
  have z : dSeq (dIfS (dTest (dBin gEq (dVar 0) (dVar 1))) (dRet (dC (.bl true))) dNext) OT (fun x _ => ξ x) { nx := fun _ => Q .non, rt := Q } [.d t.D, .d u.D, .un] := by
    unfold ovC at q
    refine o_if (fun e => ?_) fun e => ?_
    · rw [decide_eq_true e] at q
      exact q
    · rw [decide_eq_false e, Bool.false_or] at q
      exact o_tail ht hu bt bu q
  exact z
end
end K92
set_option Elab.async false
set_option linter.all false
set_option maxHeartbeats 400000
set_option maxRecDepth 100000
namespace K92
open PySem PySem.Spec L2 DL
variable {ξ : XT} {Q : D → Prop}
theorem for_consG {G : TDG} {B : TDS} {ζ : XW} {De : DEnds} {x : D} {xs : List D} {env : SE} (h : G x env fun env' => B ζ { De with nx := forD G B ζ De xs, ct := forD G B ζ De xs, bk := De.nx } env') : forD G B ζ De (x :: xs) env := h
theorem for_nil {G : TDG} {B : TDS} {ζ : XW} {De : DEnds} {env : SE} (h : De.nx env) : forD G B ζ De [] env := h
def ownL (k : R5) : List D := [.int k.a, .int k.b, .int k.c, .int k.d, .int k.e]
section
variable {t u : Tl} {De : DEnds} {ζ : XW} {U : TDS} {s0 s1 s2 s3 s4 s5 s6 s7 s8 s9 s10 : Slot}
abbrev dsD (t u : Tl) : D := .tup [.int t.r, .int t.s, .int u.r, .int u.s]
theorem v1 (h : U ζ De [.d t.D, .d u.D, .d (dsD t u), s3, s4, s5, s6, s7, s8, s9, s10]) : dSeq (dAsg (dBin gAddA (dSl (dVar 0) (dPart (dC (.int 1))) dNoPart) (dSl (dVar 1) (dPart (dC (.int 1))) dNoPart)) (dgName 2)) U ζ De [.d t.D, .d u.D, s2, s3, s4, s5, s6, s7, s8, s9, s10] := ⟨szN 4, h⟩
theorem v2 {n : Nat} (bt : Bk n t.k) (bu : Bk n u.k) (hn : n ≤ 800) (h : U ζ De [.d t.D, .d u.D, s2, .own (ownL (t.k.dbl u.k)), s4, s5, s6, s7, s8, s9, s10]) : dSeq (dOwn (lLcZ (dCons (dBin gIx (dVar 0) (dC (.int 0))) (dCons (dBin gIx (dVar 1) (dC (.int 0))) dNil)) 4 5 dYes (dBin gMulA (dC (.int 2)) (dBin gSub (dVar 5) (dVar 4)))) 3) U ζ De [.d t.D, .d u.D, s2, s3, s4, s5, s6, s7, s8, s9, s10] := by
  have c : ∀ {x y : Int}, Bd n x → Bd n y → CMulW 2 (y - x) := fun a b => Bd.cmul (n := 2) (m := 900) Bd.lit ((b.sub a).mono (by omega))
  exact ⟨⟨rfl, szN 5⟩, rfl, c bt.a bu.a, rfl, c bt.b bu.b, rfl, c bt.c bu.c, rfl, c bt.d bu.d, rfl, c bt.e bu.e, h⟩
abbrev AB : TDS := (dSetAt 3 (dVar 7) (dBin gAddA (dOwnIx 3 (dVar 7)) (dIf (dTest (dBin gGt (dVar 6) (dC (.int 1)))) (dC (.int 1)) (dUn gNeg (dC (.int 1))))))
theorem a_turn {k : R5} {i : Nat} {j m : Int} (hm : (if decide ((1 : Int) < (i : Int)) = true then (1 : Int) else -1) = m) (j0 : 0 ≤ j) (j4 : j ≤ 4) (h : De.nx [s0, s1, s2, .own (ownL (k.up j m)), s4, s5, .d (.int (i : Nat)), .d (.int j), s8, s9, s10]) : AB ζ De [s0, s1, s2, .own (ownL k), s4, s5, .d (.int (i : Nat)), .d (.int j), s8, s9, s10] := by
  subst hm
  cases hb : decide ((1 : Int) < (i : Int)) with
  | true =>
    rw [hb] at h
    have e : ∀ {P : Prop} {R : Prop}, P → (if (decide ((1 : Int) < (i : Int))) = true then P else R) := fun p => by rw [hb]; exact p
    rcases five j0 j4 with rfl | rfl | rfl | rfl | rfl <;> exact e h
  | false =>
    rw [hb] at h
    have e : ∀ {P : Prop} {R : Prop}, R → (if (decide ((1 : Int) < (i : Int))) = true then P else R) := fun p => by rw [hb]; exact p
    rcases five j0 j4 with rfl | rfl | rfl | rfl | rfl <;> exact e h
abbrev AG : TDG := (dgTup 2 (dgCons (dgName 6) (dgCons (dgName 7) dgNil)))
theorem a_cons {k : R5} {i : Nat} {j m : Int} {xs : List D} (hm : (if decide ((1 : Int) < (i : Int)) = true then (1 : Int) else -1) = m) (j0 : 0 ≤ j) (j4 : j ≤ 4) (h : ∀ s6 s7, forD AG AB ζ De xs [s0, s1, s2, .own (ownL (k.up j m)), s4, s5, s6, s7, s8, s9, s10]) : forD AG AB ζ De (.tup [.int (i : Nat), .int j] :: xs) [s0, s1, s2, .own (ownL k), s4, s5, s6, s7, s8, s9, s10] := by
  have z := a_turn (ζ := ζ) (De := { De with nx := forD AG AB ζ De xs, ct := forD AG AB ζ De xs, bk := De.nx }) (s0 := s0) (s1 := s1) (s2 := s2) (s4 := s4) (s5 := s5) (s8 := s8) (s9 := s9) (s10 := s10) hm j0 j4 (h _ _)
  exact for_consG ⟨rfl, z⟩
theorem v3 (ht : t.Ok) (hu : u.Ok) (h : ∀ s6 s7, U ζ De [s0, s1, .d (dsD t u), .own (ownL (away t u)), s4, s5, s6, s7, s8, s9, s10]) : dSeq (dForE (dCons (dVar 2) dNil) AG AB) U ζ De [s0, s1, .d (dsD t u), .own (ownL (t.k.dbl u.k)), s4, s5, s6, s7, s8, s9, s10] := by
  have z : forD AG AB ζ { De with nx := U ζ De } [.tup [.int (0 : Nat), .int t.r], .tup [.int (1 : Nat), .int t.s], .tup [.int (2 : Nat), .int u.r], .tup [.int (3 : Nat), .int u.s]] [s0, s1, .d (dsD t u), .own (ownL (t.k.dbl u.k)), s4, s5, s6, s7, s8, s9, s10] := by
    refine a_cons (m := -1) (by decide) ht.r0 ht.r4 fun _ _ => ?_
    refine a_cons (m := -1) (by decide) ht.s0 ht.s4 fun _ _ => ?_
    refine a_cons (m := 1) (by decide) hu.r0 hu.r4 fun _ _ => ?_
    refine a_cons (m := 1) (by decide) hu.s0 hu.s4 fun _ _ => ?_
    exact for_nil (h _ _)
  exact z
theorem v4 {l : List D} (h : U ζ De [s0, s1, s2, .d (.lst l), s4, s5, s6, s7, s8, s9, s10]) : dFreeze 3 U ζ De [s0, s1, s2, .own l, s4, s5, s6, s7, s8, s9, s10] := h
/-! one direction -/
theorem w1 {k : R5} {d : Int} (d0 : 0 ≤ d) (d4 : d ≤ 4) (h : U ζ De [s0, s1, s2, .d (.lst (ownL k)), s4, s5, s6, s7, .d (.int d), .d (.int (fa k d)), .d (.int (ne k d))]) : dSeq (dPar 9 10 (dCons (dBin gSub (dBin gIx (dVar 3) (dBin gSub (dVar 8) (dC (.int 3)))) (dBin gIx (dVar 3) (dBin gSub (dVar 8) (dC (.int 2))))) (dCons (dBin gSub (dBin gIx (dVar 3) (dBin gSub (dVar 8) (dC (.int 4)))) (dBin gIx (dVar 3) (dBin gSub (dVar 8) (dC (.int 1))))) dNil))) U ζ De [s0, s1, s2, .d (.lst (ownL k)), s4, s5, s6, s7, .d (.int d), s9, s10] := by
  rcases five d0 d4 with rfl | rfl | rfl | rfl | rfl <;> exact h
theorem w2 {a b : Int} (ha : Bd B a) (hb : Bd B b) (h1 : sg a b < 0 → U ζ De [s0, s1, s2, s3, s4, s5, s6, s7, s8, .d (.int (-a)), .d (.int (-b))]) (h2 : ¬ sg a b < 0 → U ζ De [s0, s1, s2, s3, s4, s5, s6, s7, s8, .d (.int a), .d (.int b)]) : dSeq (dIfS (dTest (dBin gLt (dCall 2 tf__law_sign (dCons (dVar 9) (dCons (dVar 10) dNil))) (dC (.int 0))))
    (dPar 9 10 (dCons (dUn gNeg (dVar 9)) (dCons (dUn gNeg (dVar 10)) dNil)))
    dNext) U ζ De [s0, s1, s2, s3, s4, s5, s6, s7, s8, .d (.int a), .d (.int b)] := by
  refine ⟨rfl, e_lsign ha hb ?_⟩
  refine ifd (fun h => ?_) (fun h => ?_)
  · exact h1 h
  · exact h2 h
abbrev WB : TDS := (dPar 9 10 (dCons (dBin gSub (dVar 9) (dCB gInt (dCons (dBin (gIn false) (dCB gAbs (dCons (dBin gSub (dVar 7) (dVar 8)) dNil)) (dTup (dCons (dC (.int 2)) (dCons (dC (.int 3)) dNil)))) dNil))) (dCons (dBin gSub (dVar 10) (dCB gInt (dCons (dBin (gIn false) (dCB gAbs (dCons (dBin gSub (dVar 7) (dVar 8)) dNil)) (dTup (dCons (dC (.int 1)) (dCons (dC (.int 4)) dNil)))) dNil))) dNil)))
theorem w_turn {j d a b : Int} (j0 : 0 ≤ j) (j4 : j ≤ 4) (d0 : 0 ≤ d) (d4 : d ≤ 4) (h : De.nx [s0, s1, s2, s3, s4, s5, s6, .d (.int j), .d (.int d), .d (.int (a - wa j d)), .d (.int (b - wb j d))]) : WB ζ De [s0, s1, s2, s3, s4, s5, s6, .d (.int j), .d (.int d), .d (.int a), .d (.int b)] := by
  rcases five j0 j4 with rfl | rfl | rfl | rfl | rfl <;> rcases five d0 d4 with rfl | rfl | rfl | rfl | rfl <;> exact ⟨szN 2, szN 2, h⟩
end
end K92
set_option Elab.async false
set_option linter.all false
set_option maxHeartbeats 400000
set_option maxRecDepth 100000
namespace K92
open PySem PySem.Spec L2 DL
variable {ξ : XT} {Q : D → Prop}
section
variable {t u : Tl} {De : DEnds} {ζ : XW} {U : TDS} {s0 s1 s2 s3 s4 s5 s6 s7 s8 s9 s10 : Slot}
theorem w_cons {j d a b : Int} {xs : List D} (j0 : 0 ≤ j) (j4 : j ≤ 4) (d0 : 0 ≤ d) (d4 : d ≤ 4) (h : ∀ s7, forD (dgName 7) WB ζ De xs [s0, s1, s2, s3, s4, s5, s6, s7, .d (.int d), .d (.int (a - wa j d)), .d (.int (b - wb j d))]) : forD (dgName 7) WB ζ De (.int j :: xs) [s0, s1, s2, s3, s4, s5, s6, s7, .d (.int d), .d (.int a), .d (.int b)] := by
  have z := w_turn (ζ := ζ) (De := { De with nx := forD (dgName 7) WB ζ De xs, ct := forD (dgName 7) WB ζ De xs, bk := De.nx }) (s0 := s0) (s1 := s1) (s2 := s2) (s3 := s3) (s4 := s4) (s5 := s5) (s6 := s6) j0 j4 d0 d4 (h _)
  exact for_consG z
theorem w3 (ht : t.Ok) (hu : u.Ok) {d a b : Int} (d0 : 0 ≤ d) (d4 : d ≤ 4) (h : ∀ s7, U ζ De [s0, s1, .d (dsD t u), s3, s4, s5, s6, s7, .d (.int d), .d (.int (a - pW t u d)), .d (.int (b - qW t u d))]) : dSeq (dForV 2 (dgName 7) WB) U ζ De [s0, s1, .d (dsD t u), s3, s4, s5, s6, s7, .d (.int d), .d (.int a), .d (.int b)] := by
  have e1 : a - wa t.r d - wa t.s d - wa u.r d - wa u.s d = a - pW t u d := by unfold pW; omega
  have e2 : b - wb t.r d - wb t.s d - wb u.r d - wb u.s d = b - qW t u d := by unfold qW; omega
  have z : forD (dgName 7) WB ζ { De with nx := U ζ De } [.int t.r, .int t.s, .int u.r, .int u.s] [s0, s1, .d (dsD t u), s3, s4, s5, s6, s7, .d (.int d), .d (.int a), .d (.int b)] := by
    refine w_cons ht.r0 ht.r4 d0 d4 fun _ => ?_
    refine w_cons ht.s0 ht.s4 d0 d4 fun _ => ?_
    refine w_cons hu.r0 hu.r4 d0 d4 fun _ => ?_
    refine w_cons hu.s0 hu.s4 d0 d4 fun _ => ?_
    rw [e1, e2]
    exact for_nil (h _)
  exact z
theorem w4 {a b : Int} (ha : Bd B a) (hb : Bd B b) (h1 : 0 ≤ sg a b → De.rt (.bl false)) (h2 : ¬ 0 ≤ sg a b → De.nx [s0, s1, s2, s3, s4, s5, s6, s7, s8, .d (.int a), .d (.int b)]) : (dIfS (dTest (dBin gGe (dCall 2 tf__law_sign (dCons (dVar 9) (dCons (dVar 10) dNil))) (dC (.int 0))))
    (dRet (dC (.bl false)))
    dNext) ζ De [s0, s1, s2, s3, s4, s5, s6, s7, s8, .d (.int a), .d (.int b)] := by
  refine ⟨rfl, e_lsign ha hb ?_⟩
  refine ifd (fun h => ?_) (fun h => ?_)
  · exact h1 h
  · exact h2 h
abbrev LB : TDS := (dSeq (dPar 9 10 (dCons (dBin gSub (dBin gIx (dVar 3) (dBin gSub (dVar 8) (dC (.int 3)))) (dBin gIx (dVar 3) (dBin gSub (dVar 8) (dC (.int 2))))) (dCons (dBin gSub (dBin gIx (dVar 3) (dBin gSub (dVar 8) (dC (.int 4)))) (dBin gIx (dVar 3) (dBin gSub (dVar 8) (dC (.int 1))))) dNil)))
    (dSeq (dIfS (dTest (dBin gLt (dCall 2 tf__law_sign (dCons (dVar 9) (dCons (dVar 10) dNil))) (dC (.int 0))))
    (dPar 9 10 (dCons (dUn gNeg (dVar 9)) (dCons (dUn gNeg (dVar 10)) dNil)))
    dNext)
    (dSeq (dForV 2 (dgName 7) WB)
    (dIfS (dTest (dBin gGe (dCall 2 tf__law_sign (dCons (dVar 9) (dCons (dVar 10) dNil))) (dC (.int 0))))
    (dRet (dC (.bl false)))
    dNext))))
theorem w_bd {d : Int} : Bd 5 (pW t u d) ∧ Bd 5 (qW t u d) := by
  have a1 : ∀ j, 0 ≤ wa j d ∧ wa j d ≤ 1 := fun j => by unfold wa; split <;> omega
  have a2 : ∀ j, 0 ≤ wb j d ∧ wb j d ≤ 1 := fun j => by unfold wb; split <;> omega
  have := a1 t.r
  have := a1 t.s
  have := a1 u.r
  have := a1 u.s
  have := a2 t.r
  have := a2 t.s
  have := a2 u.r
  have := a2 u.s
  unfold pW qW Bd
  omega
theorem l_turn (ht : t.Ok) (hu : u.Ok) {d : Int} (d0 : 0 ≤ d) (d4 : d ≤ 4) (bk : Bk 900 (away t u)) (h1 : lbes t u d = true → De.rt (.bl false)) (h2 : lbes t u d = false → ∀ s7 s9 s10, De.nx [s0, s1, .d (dsD t u), .d (.lst (ownL (away t u))), s4, s5, s6, s7, .d (.int d), s9, s10]) : LB ζ De [s0, s1, .d (dsD t u), .d (.lst (ownL (away t u))), s4, s5, s6, s7, .d (.int d), s9, s10] := by
  have ba : Bd 901 (fa (away t u) d) := bk.fa
  have bb : Bd 901 (ne (away t u) d) := bk.ne
  have bp : Bd 901 (pW t u d) := w_bd.1.mono (by decide)
  have bq : Bd 901 (qW t u d) := w_bd.2.mono (by decide)
  unfold lbes at h1 h2
  refine w1 d0 d4 ?_
  refine w2 (ba.mono (by decide)) (bb.mono (by decide)) (fun h => ?_) (fun h => ?_)
  · rw [if_pos h] at h1 h2
    refine w3 ht hu d0 d4 fun s7 => ?_
    exact w4 ((ba.neg.sub bp).mono (by decide)) ((bb.neg.sub bq).mono (by decide)) (fun z => h1 (decide_eq_true z)) fun z => h2 (decide_eq_false z) _ _ _
  · rw [if_neg h] at h1 h2
    refine w3 ht hu d0 d4 fun s7 => ?_
    exact w4 ((ba.sub bp).mono (by decide)) ((bb.sub bq).mono (by decide)) (fun z => h1 (decide_eq_true z)) fun z => h2 (decide_eq_false z) _ _ _
theorem l_loop (ht : t.Ok) (hu : u.Ok) (bk : Bk 900 (away t u)) : ∀ {ds : List Int} {De : DEnds} {s7 s8 s9 s10 : Slot}, (∀ d ∈ ds, 0 ≤ d ∧ d ≤ 4) → ((ds.any fun d => lbes t u d) = true → De.rt (.bl false)) → ((ds.any fun d => lbes t u d) = false → ∀ s7 s8 s9 s10, De.nx [s0, s1, .d (dsD t u), .d (.lst (ownL (away t u))), s4, s5, s6, s7, s8, s9, s10]) → forD (dgName 8) LB ζ De (ds.map D.int) [s0, s1, .d (dsD t u), .d (.lst (ownL (away t u))), s4, s5, s6, s7, s8, s9, s10]
  | [], De, s7, s8, s9, s10, _, _, q2 => q2 rfl _ _ _ _
  | d :: ds, De, s7, s8, s9, s10, h, q1, q2 => by
    obtain ⟨d0, d4⟩ := h d List.mem_cons_self
    rw [List.any_cons] at q1 q2
    have r : ∀ s7 s8 s9 s10, lbes t u d = false → forD (dgName 8) LB ζ De (ds.map D.int) [s0, s1, .d (dsD t u), .d (.lst (ownL (away t u))), s4, s5, s6, s7, s8, s9, s10] := fun s7 s8 s9 s10 e => by
      rw [e, Bool.false_or] at q1 q2
      exact l_loop ht hu bk (fun e m => h e (List.mem_cons_of_mem _ m)) q1 q2
    have r1 : lbes t u d = true → De.rt (.bl false) := fun e => by
      rw [e, Bool.true_or] at q1
      exact q1 rfl
    have z := l_turn (ζ := ζ) (De := { De with nx := forD (dgName 8) LB ζ De (ds.map D.int), ct := forD (dgName 8) LB ζ De (ds.map D.int), bk := De.nx }) (s0 := s0) (s1 := s1) (s4 := s4) (s5 := s5) (s6 := s6) (s7 := s7) (s9 := s9) (s10 := s10) ht hu d0 d4 bk r1 (fun e _ _ _ => r _ _ _ _ e)
    exact for_consG z
theorem Bk.dbl {n : Nat} {k l : R5} (h : Bk n k) (g : Bk n l) : Bk (n + 2) (k.dbl l) := by
  have f : ∀ {x y : Int}, Bd n x → Bd n y → Bd (n + 2) (2 * (y - x)) := by
    intro x y a b
    unfold Bd at *
    rw [Nat.pow_succ, Nat.pow_succ]
    generalize 2 ^ n = z at *
    omega
  exact ⟨f h.a g.a, f h.b g.b, f h.c g.c, f h.d g.d, f h.e g.e⟩
theorem away_bk {n : Nat} (bt : Bk n t.k) (bu : Bk n u.k) : Bk (n + 6) (away t u) := by
  have m1 : Bd 2 (-1 : Int) := .lit (by decide)
  exact ((((bt.dbl bu).up m1 (by omega)).up m1 (by omega)).up one2 (by omega)).up one2 (by omega)
abbrev LT : TDS := (dSeq (dForV 2 (dgName 8) LB) (dRet (dC (.bl true))))
theorem v5 (ht : t.Ok) (hu : u.Ok) (bk : Bk 900 (away t u)) (q : De.rt (.bl (ovL t u))) : LT ζ De [s0, s1, .d (dsD t u), .d (.lst (ownL (away t u))), s4, s5, s6, s7, s8, s9, s10] := by
  unfold ovL at q
  have z : forD (dgName 8) LB ζ { De with nx := (dRet (dC (.bl true))) ζ De } [.int t.r, .int t.s, .int u.r, .int u.s] [s0, s1, .d (dsD t u), .d (.lst (ownL (away t u))), s4, s5, s6, s7, s8, s9, s10] := l_loop (ds := dirs t u) ht hu bk (dirs_rng ht hu) (fun e => by rw [e] at q; exact q) (fun e _ _ _ _ => by rw [e] at q; exact q)
  exact z
end
theorem st2 {x y : D} {T : TDS} {n : Nat} (h : T (fun x _ => ξ x) { nx := fun _ => Q .non, rt := Q } (startD n [x, y])) : tfOf n T ξ [x, y] Q := h
theorem e_ovL {t u : Tl} (ht : t.Ok) (hu : u.Ok) (bt : Bk 800 t.k) (bu : Bk 800 u.k) (q : Q (.bl (ovL t u))) : tf__law_do_overlap ξ [t.D, u.D] Q := by
  unfold tf__law_do_overlap
  apply st2
  rw [show startD 11 [t.D, u.D] = [.d t.D, .d u.D, .un, .un, .un, .un, .un, .un, .un, .un, .un] from rfl]
  unfold T__law_do_overlap
  refine v1 ?_
  refine v2 bt bu (by decide) ?_
  refine v3 ht hu fun s6 s7 => ?_
  refine v4 ?_
  exact v5 ht hu ((away_bk bt bu).mono (by decide)) q
end K92
set_option Elab.async false
set_option linter.all false
set_option maxHeartbeats 400000
set_option maxRecDepth 100000
namespace K92
open PySem PySem.Spec L2 DL
variable {ξ : XT} {Q : D → Prop}
/-! ### the law's corners and marked edges -/
theorem e_lup {k : R5} {j m : Int} (j0 : 0 ≤ j) (j4 : j ≤ 4) (q : Q (k.up j m).D) : tf__law_up ξ [k.D, .int j, .int m] Q := by
  rcases five j0 j4 with rfl | rfl | rfl | rfl | rfl
  · exact ⟨szN 1, szN 1, szN 5, q⟩
  · exact ⟨szN 1, szN 2, szN 5, q⟩
  · exact ⟨szN 1, szN 3, szN 5, q⟩
  · exact ⟨szN 1, szN 4, szN 5, q⟩
  · exact ⟨szN 1, szN 5, szN 5, q⟩
def cor (t : Tl) : Nat → R5
  | 0 => t.k
  | 1 => t.k.up t.r 1
  | 2 => t.k.up t.s 1
  | _ => (t.k.up t.r 1).up t.s 1
theorem e_lcorners {t : Tl} (h : t.Ok) (q : Q (.lst [(cor t 0).D, (cor t 1).D, (cor t 2).D, (cor t 3).D])) : tf__law_corners ξ [t.D] Q :=
  ⟨rfl, rfl, e_lup h.r0 h.r4 ⟨rfl, e_lup h.s0 h.s4 ⟨rfl, e_lup h.r0 h.r4 ⟨rfl, e_lup h.s0 h.s4 ⟨szN 4, q⟩⟩⟩⟩⟩
def bsd (t : Tl) : Nat → Int
  | 0 => t.s
  | 1 => t.r
  | 2 => t.s
  | _ => t.r
theorem bsd_rng {t : Tl} (h : t.Ok) (i : Nat) : 0 ≤ bsd t i ∧ bsd t i ≤ 4 := by
  have a := h.r0
  have b := h.rs
  have c := h.s4
  unfold bsd
  split <;> omega
theorem ix_at {k : R5} {j : Int} (j0 : 0 ≤ j) (j4 : j ≤ 4) (q : Q (.int (k.at_ j))) : gIx k.D (.int j) Q := by
  rcases five j0 j4 with rfl | rfl | rfl | rfl | rfl <;> exact q
theorem at_up {k : R5} {j m : Int} (j0 : 0 ≤ j) (j4 : j ≤ 4) : (k.up j m).at_ j = k.at_ j + m := by
  rcases five j0 j4 with rfl | rfl | rfl | rfl | rfl <;> simp [R5.at_, R5.up, R5.st]
theorem eqI {a b : Int} {P : D → Prop} (q : P (.bl (decide (a = b)))) : gEq (.int a) (.int b) P := q
def nearB (t : Tl) (i : Nat) : Bool := inV (.int ((bsd t i - (t.E i).2 + 5) % 5)) [.int 1, .int 2]
theorem near_lf {t : Tl} (h : t.Ok) {i : Nat} (hi : i < 4) : (nearB t i == decide ((t.E i).1.at_ (bsd t i) = t.k.at_ (bsd t i))) = lfB t.r t.s i := by
  have a := h.r0
  have b := h.rs
  have c := h.s4
  have s0 := h.s0
  have r4 := h.r4
  rcases four hi with rfl | rfl | rfl | rfl
  · show (inV (.int ((t.s - t.r + 5) % 5)) [.int 1, .int 2] == decide (t.k.at_ t.s = t.k.at_ t.s)) = inV (.int ((t.s - t.r) % 5)) [.int 1, .int 2]
    rw [decide_eq_true rfl, show (t.s - t.r + 5) % 5 = (t.s - t.r) % 5 by omega]
    cases inV (.int ((t.s - t.r) % 5)) [.int 1, .int 2] <;> rfl
  · show (inV (.int ((t.r - t.s + 5) % 5)) [.int 1, .int 2] == decide (t.k.at_ t.r = t.k.at_ t.r)) = inV (.int ((t.r - t.s) % 5)) [.int 1, .int 2]
    rw [decide_eq_true rfl, show (t.r - t.s + 5) % 5 = (t.r - t.s) % 5 by omega]
    cases inV (.int ((t.r - t.s) % 5)) [.int 1, .int 2] <;> rfl
  · show (inV (.int ((t.s - t.r + 5) % 5)) [.int 1, .int 2] == decide ((t.k.up t.s 1).at_ t.s = t.k.at_ t.s)) = inV (.int ((t.s - t.r) % 5)) [.int 3, .int 4]
    rw [at_up s0 c, decide_eq_false (by omega), in2, in34, Bool.eq_iff_iff]
    simp only [beq_false, Bool.not_eq_true', Bool.and_eq_false_iff, Bool.and_eq_true, decide_eq_true_eq, decide_eq_false_iff_not]
    omega
  · show (inV (.int ((t.r - t.s + 5) % 5)) [.int 1, .int 2] == decide ((t.k.up t.r 1).at_ t.r = t.k.at_ t.r)) = inV (.int ((t.r - t.s) % 5)) [.int 3, .int 4]
    rw [at_up a r4, decide_eq_false (by omega), in2, in34, Bool.eq_iff_iff]
    simp only [beq_false, Bool.not_eq_true', Bool.and_eq_false_iff, Bool.and_eq_true, decide_eq_true_eq, decide_eq_false_iff_not]
    omega
def mkd (t : Tl) (i : Nat) : D := .tup [eD (t.E i), .str (mkS t.k.sum t.r t.s i), .bl (lfB t.r t.s i)]
section
variable {t u : Tl} {De : DEnds} {ζ : XW} {U : TDS} {s0 s1 s2 s3 s4 s5 s6 s7 s8 s9 s10 : Slot}
abbrev MA : TDS := (dAsg (dBin (gIn false) (dBin gMod (dCB gInt (dCons (dBin gAddA (dBin gSub (dVar 8) (dVar 7)) (dC (.int 5))) dNil)) (dC (.int 5))) (dTup (dCons (dC (.int 1)) (dCons (dC (.int 2)) dNil)))) (dgName 9))
abbrev MC : TDS := (dApp 5 (dTup (dCons (dTup (dCons (dVar 6) (dCons (dVar 7) dNil))) (dCons (dIf (dTest (dBin gEq (dCB gSum (dCons (dVar 6) dNil)) (dC (.int 2)))) (dVar 4) (dC (.str "outer"))) (dCons (dBin gEq (dVar 9) (dBin gEq (dBin gIx (dVar 6) (dVar 8)) (dBin gIx (dVar 1) (dVar 8)))) dNil)))))
theorem m1 {i : Nat} (h : U ζ De [s0, s1, s2, s3, s4, s5, s6, .d (.int (t.E i).2), .d (.int (bsd t i)), .d (.bl (nearB t i))]) : dSeq MA U ζ De [s0, s1, s2, s3, s4, s5, s6, .d (.int (t.E i).2), .d (.int (bsd t i)), s9] := ⟨p5, szN 2, h⟩
theorem m2 (ht : t.Ok) {i : Nat} (hi : i < 4) {l : List D} (hl : l.length ≤ 100) (h : De.nx [s0, .d t.k.D, s2, s3, .d (.str (inn t.k.sum t.r t.s)), .own (l ++ [mkd t i]), .d (t.E i).1.D, .d (.int (t.E i).2), .d (.int (bsd t i)), .d (.bl (nearB t i))]) : MC ζ De [s0, .d t.k.D, s2, s3, .d (.str (inn t.k.sum t.r t.s)), .own l, .d (t.E i).1.D, .d (.int (t.E i).2), .d (.int (bsd t i)), .d (.bl (nearB t i))] := by
  obtain ⟨b0, b4⟩ := bsd_rng ht i
  have hll : l.length < sizeLine := by rw [sizeLine_eq]; omega
  have fin : ∀ {m : D}, m = .str (mkS t.k.sum t.r t.s i) → gIx (t.E i).1.D (.int (bsd t i)) (fun x => gIx t.k.D (.int (bsd t i)) (fun y => gEq x y (fun z => gEq (.bl (nearB t i)) z (fun w => (3 ≤ sizeLine ∧ (l.length < sizeLine ∧ De.nx [s0, .d t.k.D, s2, s3, .d (.str (inn t.k.sum t.r t.s)), .own (l ++ [.tup [eD (t.E i), m, w]]), .d (t.E i).1.D, .d (.int (t.E i).2), .d (.int (bsd t i)), .d (.bl (nearB t i))]))))) ) := by
    intro m e
    subst e
    refine ix_at b0 b4 (ix_at b0 b4 ?_)
    refine eqI ?_
    refine eqB ?_
    rw [near_lf ht hi]
    exact ⟨szN 3, hll, h⟩
  have sm := E_sum ht (i := i)
  refine ⟨szN 2, ?_⟩
  refine ifd (p := (t.E i).1.sum = 2) (fun e => ?_) (fun e => ?_)
  · refine fin (m := .str (inn t.k.sum t.r t.s)) ?_
    unfold mkS
    rw [if_neg]
    intro z
    rw [beq_iff_eq] at z
    have := ht.l
    by_cases h2 : i < 2
    · rw [if_pos h2] at sm
      rw [decide_eq_true h2, decide_eq_true_eq] at z
      omega
    · rw [if_neg h2] at sm
      rw [decide_eq_false h2, decide_eq_false_iff_not] at z
      omega
  · refine fin (m := .str "outer") ?_
    unfold mkS
    rw [if_pos]
    rw [beq_iff_eq]
    have := ht.l
    by_cases h2 : i < 2
    · rw [if_pos h2] at sm
      rw [decide_eq_true h2, decide_eq_true_eq]
      omega
    · rw [if_neg h2] at sm
      rw [decide_eq_false h2, decide_eq_false_iff_not]
      omega
end
end K92
set_option Elab.async false
set_option linter.all false
set_option maxHeartbeats 400000
set_option maxRecDepth 100000
namespace K92
open PySem PySem.Spec L2 DL
variable {ξ : XT} {Q : D → Prop}
section
variable {t u : Tl} {De : DEnds} {ζ : XW} {U : TDS} {s0 s1 s2 s3 s4 s5 s6 s7 s8 s9 s10 : Slot}
abbrev MG : TDG := (dgTup 3 (dgCons (dgName 6) (dgCons (dgName 7) (dgCons (dgName 8) dgNil))))
abbrev MB : TDS := dSeq MA MC
def trp (t : Tl) (i : Nat) : D := .tup [(t.E i).1.D, .int (t.E i).2, .int (bsd t i)]
theorem m_cons (ht : t.Ok) {i : Nat} (hi : i < 4) {l xs : List D} (hl : l.length ≤ 100) (h : ∀ s6 s7 s8 s9, forD MG MB ζ De xs [s0, .d t.k.D, s2, s3, .d (.str (inn t.k.sum t.r t.s)), .own (l ++ [mkd t i]), s6, s7, s8, s9]) : forD MG MB ζ De (trp t i :: xs) [s0, .d t.k.D, s2, s3, .d (.str (inn t.k.sum t.r t.s)), .own l, s6, s7, s8, s9] := by
  have z := m1 (ζ := ζ) (U := MC) (t := t) (i := i) (s9 := s9) (m2 (ζ := ζ) (De := { De with nx := forD MG MB ζ De xs, ct := forD MG MB ζ De xs, bk := De.nx }) (s0 := s0) (s2 := s2) (s3 := s3) ht hi hl (h _ _ _ _))
  exact for_consG ⟨rfl, z⟩
theorem m3 (h : U ζ De [s0, .d t.k.D, .d (.int t.r), .d (.int t.s), .d (.str (inn t.k.sum t.r t.s)), s5, s6, s7, s8, s9]) : dSeq (dAsg (dIf (dTest (dBin gEq (dBin (gIn false) (dBin gSub (dVar 3) (dVar 2)) (dTup (dCons (dC (.int 1)) (dCons (dC (.int 4)) dNil)))) (dBin gEq (dCB gSum (dCons (dVar 1) dNil)) (dC (.int 1))))) (dC (.str "up")) (dC (.str "down"))) (dgName 4)) U ζ De [s0, .d t.k.D, .d (.int t.r), .d (.int t.s), s4, s5, s6, s7, s8, s9] := by
  have z : gEq (.bl (thk t.r t.s)) (.bl (decide (t.k.sum = 1))) (fun d => match d with | .bl b => (if b = true then U ζ De [s0, .d t.k.D, .d (.int t.r), .d (.int t.s), .d (.str "up"), s5, s6, s7, s8, s9] else U ζ De [s0, .d t.k.D, .d (.int t.r), .d (.int t.s), .d (.str "down"), s5, s6, s7, s8, s9]) | _ => False) := by
    refine eqB ?_
    unfold inn at h
    cases hb : (thk t.r t.s == decide (t.k.sum = 1)) with
    | true => rw [hb] at h; exact h
    | false => rw [hb] at h; exact h
  exact ⟨szN 2, z⟩
theorem m4 (h : U ζ De [s0, s1, s2, s3, s4, .own [], s6, s7, s8, s9]) : dSeq (dOwn (lLst dNil) 5) U ζ De [s0, s1, s2, s3, s4, s5, s6, s7, s8, s9] := ⟨szN 0, h⟩
theorem m5 (ht : t.Ok) (h : ∀ s6 s7 s8 s9, U ζ De [.d t.D, .d t.k.D, .d (.int t.r), .d (.int t.s), .d (.str (inn t.k.sum t.r t.s)), .own [mkd t 0, mkd t 1, mkd t 2, mkd t 3], s6, s7, s8, s9]) : dSeq (dForT (dTup (dCons (dTup (dCons (dVar 1) (dCons (dVar 2) (dCons (dVar 3) dNil)))) (dCons (dTup (dCons (dVar 1) (dCons (dVar 3) (dCons (dVar 2) dNil)))) (dCons (dTup (dCons (dCallD 3 [.int (1)] tf__law_up (dCons (dVar 1) (dCons (dVar 3) dNil))) (dCons (dVar 2) (dCons (dVar 3) dNil)))) (dCons (dTup (dCons (dCallD 3 [.int (1)] tf__law_up (dCons (dVar 1) (dCons (dVar 2) dNil))) (dCons (dVar 3) (dCons (dVar 2) dNil)))) dNil))))) MG MB) U ζ De [.d t.D, .d t.k.D, .d (.int t.r), .d (.int t.s), .d (.str (inn t.k.sum t.r t.s)), .own [], s6, s7, s8, s9] := by
  have z : forD MG MB ζ { De with nx := U ζ De } [trp t 0, trp t 1, trp t 2, trp t 3] [.d t.D, .d t.k.D, .d (.int t.r), .d (.int t.s), .d (.str (inn t.k.sum t.r t.s)), .own [], s6, s7, s8, s9] := by
    refine m_cons ht (i := 0) (by decide) (Nat.zero_le _) fun _ _ _ _ => ?_
    refine m_cons ht (i := 1) (by decide) (by show 1 ≤ 100; decide) fun _ _ _ _ => ?_
    refine m_cons ht (i := 2) (by decide) (by show 2 ≤ 100; decide) fun _ _ _ _ => ?_
    refine m_cons ht (i := 3) (by decide) (by show 3 ≤ 100; decide) fun _ _ _ _ => ?_
    exact for_nil (h _ _ _ _)
  exact ⟨szN 3, szN 3, rfl, e_lup ht.s0 ht.s4 ⟨szN 3, rfl, e_lup ht.r0 ht.r4 ⟨szN 3, szN 4, z⟩⟩⟩
theorem m6 {l : List D} (h : U ζ De [s0, s1, s2, s3, s4, .d (.lst l), s6, s7, s8, s9]) : dFreeze 5 U ζ De [s0, s1, s2, s3, s4, .own l, s6, s7, s8, s9] := h
theorem m0 (h : U ζ De [.d t.D, .d t.k.D, .d (.int t.r), .d (.int t.s), s4, s5, s6, s7, s8, s9]) : dSeq (dAsg (dVar 0) (dgTup 3 (dgCons (dgName 1) (dgCons (dgName 2) (dgCons (dgName 3) dgNil))))) U ζ De [.d t.D, s1, s2, s3, s4, s5, s6, s7, s8, s9] := ⟨rfl, h⟩
end
theorem st1 {x : D} {T : TDS} {n : Nat} (h : T (fun x _ => ξ x) { nx := fun _ => Q .non, rt := Q } (startD n [x])) : tfOf n T ξ [x] Q := h
theorem e_marked {t : Tl} (ht : t.Ok) (q : Q (.lst [mkd t 0, mkd t 1, mkd t 2, mkd t 3])) : tf__law_marked ξ [t.D] Q := by
  unfold tf__law_marked
  apply st1
  rw [show startD 10 [t.D] = [.d t.D, .un, .un, .un, .un, .un, .un, .un, .un, .un] from rfl]
  unfold T__law_marked
  refine m0 ?_
  refine m3 ?_
  refine m4 ?_
  refine m5 ht fun _ _ _ _ => ?_
  refine m6 ?_
  exact q
/-! ### the law's meeting -/
def mtF (t u : Tl) (i : Nat) (rest : Int) : Int := match pl u (t.E i) with
  | some j => if val t u i j = true then 1 else -1
  | none => rest
def meet (t u : Tl) : Int := mtF t u 0 (mtF t u 1 (mtF t u 2 (mtF t u 3 0)))
theorem meet_fit {t u : Tl} : decide (meet t u = 1) = fit t u := by
  have f : ∀ i (a : Int) (b : Bool), decide (a = 1) = b → decide (mtF t u i a = 1) = fitF t u i b := by
    intro i a b h
    unfold mtF fitF
    cases hj : pl u (t.E i) with
    | some j =>
      show decide ((if val t u i j = true then (1 : Int) else -1) = 1) = val t u i j
      cases val t u i j <;> rfl
    | none => exact h
  exact f 0 _ _ (f 1 _ _ (f 2 _ _ (f 3 _ _ rfl)))
theorem eqE {x y : Ed} {P : D → Prop} (q : P (.bl (decide (x = y)))) : gEq (eD x) (eD y) P := by
  show (eqOk (eD x) = true ∧ eqOk (eD y) = true) ∧ P (.bl (PyData.eqv (toP (eD x)) (toP (eD y))))
  rw [eqv_E]
  exact ⟨⟨eqOk_E x, eqOk_E y⟩, q⟩
section
variable {t u : Tl} {De : DEnds} {ζ : XW} {U : TDS} {s0 s1 s2 s3 s4 s5 s6 s7 s8 s9 s10 : Slot}
abbrev PR : TDS := (dRet (dIf (dtAnd (dTest (dBin gEq (dVar 3) (dVar 6))) (dTest (dBin gNe (dVar 4) (dVar 7)))) (dC (.int 1)) (dUn gNeg (dC (.int 1)))))
abbrev PB : TDS := (dIfS (dTest (dBin gEq (dVar 2) (dVar 5))) PR dNext)
theorem pr_val {i j : Nat} {x : Slot} {y : Slot} (q : De.rt (.int (if val t u i j = true then 1 else -1))) : PR ζ De [s0, s1, x, .d (.str (mkS t.k.sum t.r t.s i)), .d (.bl (lfB t.r t.s i)), y, .d (.str (mkS u.k.sum u.r u.s j)), .d (.bl (lfB u.r u.s j))] := by
  unfold val at q
  refine ifd (p := mkS t.k.sum t.r t.s i = mkS u.k.sum u.r u.s j) (fun e => ?_) (fun e => ?_)
  · rw [decide_eq_true e, Bool.true_and] at q
    have z : gNe (.bl (lfB t.r t.s i)) (.bl (lfB u.r u.s j)) (fun d => match d with | .bl b => (if b = true then De.rt (.int 1) else De.rt (.int (-1))) | _ => False) := by
      refine neB ?_
      cases hb : (lfB t.r t.s i != lfB u.r u.s j) with
      | true => rw [hb] at q; exact q
      | false => rw [hb] at q; exact q
    exact z
  · rw [decide_eq_false e, Bool.false_and] at q
    exact q
theorem p_turn {i j : Nat} (q1 : t.E i = u.E j → De.rt (.int (if val t u i j = true then 1 else -1))) (q2 : ¬ t.E i = u.E j → De.nx [s0, s1, .d (eD (t.E i)), .d (.str (mkS t.k.sum t.r t.s i)), .d (.bl (lfB t.r t.s i)), .d (eD (u.E j)), .d (.str (mkS u.k.sum u.r u.s j)), .d (.bl (lfB u.r u.s j))]) : PB ζ De [s0, s1, .d (eD (t.E i)), .d (.str (mkS t.k.sum t.r t.s i)), .d (.bl (lfB t.r t.s i)), .d (eD (u.E j)), .d (.str (mkS u.k.sum u.r u.s j)), .d (.bl (lfB u.r u.s j))] := by
  have z : gEq (eD (t.E i)) (eD (u.E j)) (fun d => match d with | .bl b => (if b = true then PR ζ De [s0, s1, .d (eD (t.E i)), .d (.str (mkS t.k.sum t.r t.s i)), .d (.bl (lfB t.r t.s i)), .d (eD (u.E j)), .d (.str (mkS u.k.sum u.r u.s j)), .d (.bl (lfB u.r u.s j))] else De.nx [s0, s1, .d (eD (t.E i)), .d (.str (mkS t.k.sum t.r t.s i)), .d (.bl (lfB t.r t.s i)), .d (eD (u.E j)), .d (.str (mkS u.k.sum u.r u.s j)), .d (.bl (lfB u.r u.s j))]) | _ => False) := by
    refine eqE ?_
    by_cases e : t.E i = u.E j
    · rw [decide_eq_true e]
      exact pr_val (q1 e)
    · rw [decide_eq_false e]
      exact q2 e
  exact z
abbrev PG : TDG := (dgTup 3 (dgCons (dgName 5) (dgCons (dgName 6) (dgCons (dgName 7) dgNil))))
theorem p_cons {i j : Nat} {xs : List D} (q1 : t.E i = u.E j → De.rt (.int (if val t u i j = true then 1 else -1))) (q2 : ¬ t.E i = u.E j → ∀ s5 s6 s7, forD PG PB ζ De xs [s0, s1, .d (eD (t.E i)), .d (.str (mkS t.k.sum t.r t.s i)), .d (.bl (lfB t.r t.s i)), s5, s6, s7]) : forD PG PB ζ De (mkd u j :: xs) [s0, s1, .d (eD (t.E i)), .d (.str (mkS t.k.sum t.r t.s i)), .d (.bl (lfB t.r t.s i)), s5, s6, s7] := by
  have z := p_turn (ζ := ζ) (De := { De with nx := forD PG PB ζ De xs, ct := forD PG PB ζ De xs, bk := De.nx }) (s0 := s0) (s1 := s1) q1 fun e => q2 e _ _ _
  exact for_consG ⟨rfl, z⟩
abbrev PO : TDS := (dFor (dCall 1 tf__law_marked (dCons (dVar 1) dNil)) PG PB)
theorem p_inner (hu : u.Ok) {i : Nat} (q1 : ∀ j, pl u (t.E i) = some j → De.rt (.int (if val t u i j = true then 1 else -1))) (q2 : pl u (t.E i) = none → ∀ s5 s6 s7, De.nx [s0, .d u.D, .d (eD (t.E i)), .d (.str (mkS t.k.sum t.r t.s i)), .d (.bl (lfB t.r t.s i)), s5, s6, s7]) : PO ζ De [s0, .d u.D, .d (eD (t.E i)), .d (.str (mkS t.k.sum t.r t.s i)), .d (.bl (lfB t.r t.s i)), s5, s6, s7] := by
  have z : forD PG PB ζ De [mkd u 0, mkd u 1, mkd u 2, mkd u 3] [s0, .d u.D, .d (eD (t.E i)), .d (.str (mkS t.k.sum t.r t.s i)), .d (.bl (lfB t.r t.s i)), s5, s6, s7] := by
    unfold pl at q1 q2
    refine p_cons (fun e => q1 0 (if_pos e.symm)) fun n0 _ _ _ => ?_
    rw [if_neg fun z => n0 z.symm] at q1 q2
    refine p_cons (fun e => q1 1 (if_pos e.symm)) fun n1 _ _ _ => ?_
    rw [if_neg fun z => n1 z.symm] at q1 q2
    refine p_cons (fun e => q1 2 (if_pos e.symm)) fun n2 _ _ _ => ?_
    rw [if_neg fun z => n2 z.symm] at q1 q2
    refine p_cons (fun e => q1 3 (if_pos e.symm)) fun n3 _ _ _ => ?_
    rw [if_neg fun z => n3 z.symm] at q2
    exact for_nil (q2 rfl _ _ _)
  exact ⟨rfl, e_marked hu z⟩
abbrev PH : TDG := (dgTup 3 (dgCons (dgName 2) (dgCons (dgName 3) (dgCons (dgName 4) dgNil))))
theorem p_outer (hu : u.Ok) {i : Nat} {a : Int} {xs : List D} (q : De.rt (.int (mtF t u i a))) (h : De.rt (.int a) → ∀ s2 s3 s4 s5 s6 s7, forD PH PO ζ De xs [s0, .d u.D, s2, s3, s4, s5, s6, s7]) : forD PH PO ζ De (mkd t i :: xs) [s0, .d u.D, s2, s3, s4, s5, s6, s7] := by
  unfold mtF at q
  have z := p_inner (ζ := ζ) (De := { De with nx := forD PH PO ζ De xs, ct := forD PH PO ζ De xs, bk := De.nx }) (t := t) (s0 := s0) (s5 := s5) (s6 := s6) (s7 := s7) hu (i := i) (fun j hj => by rw [hj] at q; exact q) (fun hn _ _ _ => by rw [hn] at q; exact h q _ _ _ _ _ _)
  exact for_consG ⟨rfl, z⟩
end
theorem e_meeting {t u : Tl} (ht : t.Ok) (hu : u.Ok) (q : Q (.int (meet t u))) : tf__law_meeting ξ [t.D, u.D] Q := by
  unfold tf__law_meeting
  apply st2
  rw [show startD 8 [t.D, u.D] = [.d t.D, .d u.D, .un, .un, .un, .un, .un, .un] from rfl]
  unfold T__law_meeting
  have z : forD PH PO (fun _ _ => False) { nx := (dRet (dC (.int 0))) (fun _ _ => False) { nx := fun _ => Q .non, rt := Q }, rt := Q } [mkd t 0, mkd t 1, mkd t 2, mkd t 3] [.d t.D, .d u.D, .un, .un, .un, .un, .un, .un] := by
    refine p_outer hu q fun q _ _ _ _ _ _ => ?_
    refine p_outer hu q fun q _ _ _ _ _ _ => ?_
    refine p_outer hu q fun q _ _ _ _ _ _ => ?_
    refine p_outer hu q fun q _ _ _ _ _ _ => ?_
    exact for_nil q
  exact ⟨rfl, e_marked ht z⟩
end K92
set_option Elab.async false
set_option linter.all false
set_option maxHeartbeats 400000
set_option maxRecDepth 100000
namespace K92
open PySem PySem.Spec L2 DL
variable {ξ : XT} {Q : D → Prop}
/-! ### tiles that fit do not overlap -/
def uk (x : R5) (r s : Int) : Nat → R5
  | 0 => x
  | 1 => x
  | 2 => x.up s (-1)
  | _ => x.up r (-1)
theorem st_back {x r j : Int} : R5.st (R5.st x r j 1) r j (-1) = x := by
  unfold R5.st
  split <;> omega
theorem up_back {k : R5} {j : Int} : (k.up j 1).up j (-1) = k := R5.ext' st_back st_back st_back st_back st_back
theorem uk_of {u : Tl} {j : Nat} (h : j < 4) : uk (u.E j).1 u.r u.s j = u.k := by
  rcases four h with rfl | rfl | rfl | rfl
  · rfl
  · rfl
  · exact up_back
  · exact up_back
theorem uk_add {k x : R5} {r s : Int} {j : Nat} (h : j < 4) : uk (k.add x) r s j = k.add (uk x r s j) := by
  rcases four h with rfl | rfl | rfl | rfl
  · rfl
  · rfl
  · exact up_add
  · exact up_add
theorem dbl_sh {k a b : R5} : (k.add a).dbl (k.add b) = a.dbl b := by
  refine R5.ext' ?_ ?_ ?_ ?_ ?_ <;> (simp only [R5.dbl, R5.add]; omega)
theorem away_sh {k : R5} {t u : Tl} : away (sh k t) (sh k u) = away t u := by
  show (((((k.add t.k).dbl (k.add u.k)).up t.r (-1)).up t.s (-1)).up u.r 1).up u.s 1 = _
  rw [dbl_sh]
  rfl
theorem ovL_sh {k : R5} {t u : Tl} : ovL (sh k t) (sh k u) = ovL t u := by
  have e : ∀ d, lbes (sh k t) (sh k u) d = lbes t u d := by
    intro d
    unfold lbes
    rw [away_sh]
    rfl
  unfold ovL
  show (!(dirs t u).any fun d => lbes (sh k t) (sh k u) d) = _
  rw [any_eq fun d _ => e d]
def nov (r s r' s' : Int) : Bool := [0, 1, 2, 3].all fun i => [0, 1, 2, 3].all fun j => !(decide (((⟨z0, r, s⟩ : Tl).E i).2 = ((⟨z0, r', s'⟩ : Tl).E j).2) && (lfB r s i != lfB r' s' j)) || !ovL ⟨z0, r, s⟩ ⟨uk ((⟨z0, r, s⟩ : Tl).E i).1 r' s' j, r', s'⟩
def all10 (r s : Int) : Bool := nov r s 0 1 && (nov r s 0 2 && (nov r s 0 3 && (nov r s 0 4 && (nov r s 1 2 && (nov r s 1 3 && (nov r s 1 4 && (nov r s 2 3 && (nov r s 2 4 && nov r s 3 4))))))))
theorem nov_all {t u : Tl} (ht : t.Ok) (hu : u.Ok) : nov t.r t.s u.r u.s = true := by
  have z : all10 t.r t.s = true := pairs ht (fun r s => all10 r s = true) (by decide +kernel) (by decide +kernel) (by decide +kernel) (by decide +kernel) (by decide +kernel) (by decide +kernel) (by decide +kernel) (by decide +kernel) (by decide +kernel) (by decide +kernel)
  unfold all10 at z
  simp only [Bool.and_eq_true] at z
  obtain ⟨h1, h2, h3, h4, h5, h6, h7, h8, h9, h10⟩ := z
  exact pairs hu (fun r s => nov t.r t.s r s = true) h1 h2 h3 h4 h5 h6 h7 h8 h9 h10
theorem E_dir {k l : R5} {r s : Int} (j : Nat) : ((⟨k, r, s⟩ : Tl).E j).2 = ((⟨l, r, s⟩ : Tl).E j).2 := by
  unfold Tl.E
  split <;> rfl
theorem val_no {t u : Tl} (ht : t.Ok) (hu : u.Ok) {i j : Nat} (hi : i < 4) (hj : j < 4) (e : u.E j = t.E i) (v : val t u i j = true) : ovL t u = false := by
  have hv : (lfB t.r t.s i != lfB u.r u.s j) = true := by
    unfold val at v
    exact (Bool.and_eq_true_iff.mp v).2
  have n := nov_all ht hu
  unfold nov at n
  rw [List.all_eq_true] at n
  have n := n i (by simp only [List.mem_cons, List.not_mem_nil, or_false]; omega)
  rw [List.all_eq_true] at n
  have n := n j (by simp only [List.mem_cons, List.not_mem_nil, or_false]; omega)
  have hd : ((⟨z0, t.r, t.s⟩ : Tl).E i).2 = ((⟨z0, u.r, u.s⟩ : Tl).E j).2 := by
    rw [E_dir (k := z0) (l := t.k) i, E_dir (k := z0) (l := u.k) j]
    exact (congrArg Prod.snd e).symm
  rw [decide_eq_true hd, hv] at n
  have n : ovL ⟨z0, t.r, t.s⟩ ⟨uk ((⟨z0, t.r, t.s⟩ : Tl).E i).1 u.r u.s j, u.r, u.s⟩ = false := by simpa using n
  rw [← ovL_sh (k := t.k)] at n
  have e1 : sh t.k ⟨z0, t.r, t.s⟩ = t := sh_z
  have e2 : sh t.k ⟨uk ((⟨z0, t.r, t.s⟩ : Tl).E i).1 u.r u.s j, u.r, u.s⟩ = u := by
    show (⟨t.k.add (uk _ u.r u.s j), u.r, u.s⟩ : Tl) = u
    rw [← uk_add hj]
    have e3 : t.k.add ((⟨z0, t.r, t.s⟩ : Tl).E i).1 = (u.E j).1 := by
      rw [e]
      have := congrArg Prod.fst (E_sh (k := t.k) (t := ⟨z0, t.r, t.s⟩) (i := i))
      rw [e1] at this
      exact this.symm
    rw [e3, uk_of hj]
  rw [e1, e2] at n
  exact n
theorem fit_no {t u : Tl} (ht : t.Ok) (hu : u.Ok) (h : fit t u = true) : ovL t u = false := by
  have f : ∀ i (b : Bool), i < 4 → (b = true → ovL t u = false) → fitF t u i b = true → ovL t u = false := by
    intro i b hi hb hf
    unfold fitF at hf
    cases hj : pl u (t.E i) with
    | some j =>
      rw [hj] at hf
      refine val_no ht hu hi (pl_lt hj) ?_ hf
      unfold pl at hj
      repeat' split at hj
      all_goals first | (cases hj; assumption) | cases hj
    | none =>
      rw [hj] at hf
      exact hb hf
  exact f 0 _ (by decide) (f 1 _ (by decide) (f 2 _ (by decide) (f 3 _ (by decide) (fun z => by cases z)))) h
end K92
set_option Elab.async false
set_option linter.all false
set_option maxHeartbeats 1000000
set_option maxRecDepth 100000
namespace K92
open PySem PySem.Spec L2 DL
variable {ξ : XT} {Q : D → Prop}
/-! ### golden numbers -/
theorem ipi1 {i : Int} (h : Q (.bl true)) : tf_is_plain_integer ξ [.int i] Q := ⟨rfl, rfl, h⟩
abbrev T3 (a b c : Int) : D := .tup [.int a, .int b, .int c]
theorem e_isg {a b d : Int} (hd : 1 ≤ d) (h : Q (.bl true)) : tf_is_golden ξ [T3 a b d] Q :=
  ⟨rfl, rfl, rfl, ipi1 ⟨rfl, ipi1 ⟨rfl, ipi1 (show Q (.bl (decide (1 ≤ d))) from by rw [decide_eq_true hd]; exact h)⟩⟩⟩
theorem e_need {a b d : Int} (hd : 1 ≤ d) (h : Q .non) : tf_need_golden ξ [T3 a b d] Q := ⟨rfl, e_isg hd h⟩
/-! ### lowest terms -/
structure Nf (x y z : Int) : Prop where
  p : 1 ≤ z
  g : (x.natAbs.gcd y.natAbs).gcd z.natAbs = 1
def Rl (A B C x y z : Int) : Prop := x * C = A * z ∧ y * C = B * z
structure Gs (n : Nat) (a b d : Int) : Prop where
  ba : Bd n a
  bb : Bd n b
  bd : Bd n d
  p : 1 ≤ d
theorem Gs.mono {n m : Nat} {a b d : Int} (g : Gs n a b d) (l : n ≤ m) : Gs m a b d := ⟨g.ba.mono l, g.bb.mono l, g.bd.mono l, g.p⟩
theorem core3 (a b d : Int) (hd : d ≠ 0) : ∃ x y z : Int, ∃ G : Int, G = (((Nat.gcd a.natAbs b.natAbs).gcd d.natAbs : Nat) : Int) ∧ 0 < G ∧ a = G * x ∧ b = G * y ∧ d = G * z ∧ (x.natAbs.gcd y.natAbs).gcd z.natAbs = 1 := by
  generalize hg : (Nat.gcd a.natAbs b.natAbs).gcd d.natAbs = g
  have da : g ∣ a.natAbs := hg ▸ Nat.dvd_trans (Nat.gcd_dvd_left _ _) (Nat.gcd_dvd_left _ _)
  have db : g ∣ b.natAbs := hg ▸ Nat.dvd_trans (Nat.gcd_dvd_left _ _) (Nat.gcd_dvd_right _ _)
  have dd : g ∣ d.natAbs := hg ▸ Nat.gcd_dvd_right _ _
  have gp : 0 < g := by
    refine Nat.pos_of_ne_zero fun e => ?_
    rw [e] at dd
    have := Nat.eq_zero_of_zero_dvd dd
    omega
  obtain ⟨x, hx⟩ := Int.ofNat_dvd_left.mpr da
  obtain ⟨y, hy⟩ := Int.ofNat_dvd_left.mpr db
  obtain ⟨z, hz⟩ := Int.ofNat_dvd_left.mpr dd
  refine ⟨x, y, z, (g : Int), rfl, by omega, hx, hy, hz, ?_⟩
  have ea : a.natAbs = g * x.natAbs := by rw [hx, Int.natAbs_mul]; rfl
  have eb : b.natAbs = g * y.natAbs := by rw [hy, Int.natAbs_mul]; rfl
  have ed : d.natAbs = g * z.natAbs := by rw [hz, Int.natAbs_mul]; rfl
  rw [ea, eb, ed, Nat.gcd_mul_left, Nat.gcd_mul_left] at hg
  exact Nat.eq_of_mul_eq_mul_left gp (by rw [hg, Nat.mul_one])
theorem Nf.le {x y z x' y' z' : Int} (h : Nf x y z) (p : 1 ≤ z') (r : Rl x y z x' y' z') : z ∣ z' := by
  obtain ⟨e1, e2⟩ := r
  have d1 : z.natAbs ∣ x.natAbs * z'.natAbs := by
    rw [← Int.natAbs_mul, ← e1, Int.natAbs_mul]
    exact Nat.dvd_mul_left _ _
  have d2 : z.natAbs ∣ y.natAbs * z'.natAbs := by
    rw [← Int.natAbs_mul, ← e2, Int.natAbs_mul]
    exact Nat.dvd_mul_left _ _
  have d3 : z.natAbs ∣ z.natAbs * z'.natAbs := Nat.dvd_mul_right _ _
  have d4 := Nat.dvd_gcd (Nat.dvd_gcd d1 d2) d3
  rw [Nat.gcd_mul_right, Nat.gcd_mul_right, h.g, Nat.one_mul] at d4
  exact Int.natAbs_dvd_natAbs.mp d4
theorem Rl.symm {x y z x' y' z' : Int} (r : Rl x y z x' y' z') : Rl x' y' z' x y z := ⟨r.1.symm, r.2.symm⟩
theorem nf_eq {x y z x' y' z' : Int} (h : Nf x y z) (h' : Nf x' y' z') (r : Rl x y z x' y' z') : x = x' ∧ y = y' ∧ z = z' := by
  have d1 := h.le h'.p r
  have d2 := h'.le h.p r.symm
  have e : z = z' := Int.le_antisymm (Int.le_of_dvd (by have := h'.p; omega) d1) (Int.le_of_dvd (by have := h.p; omega) d2)
  subst e
  have nz : z ≠ 0 := by have := h.p; omega
  exact ⟨(Int.eq_of_mul_eq_mul_right nz r.1).symm, (Int.eq_of_mul_eq_mul_right nz r.2).symm, rfl⟩
theorem Rl.trans {a b d x y z u v w : Int} (hz : z ≠ 0) (r : Rl a b d x y z) (q : Rl x y z u v w) : Rl a b d u v w := by
  obtain ⟨r1, r2⟩ := r
  obtain ⟨q1, q2⟩ := q
  constructor
  · refine Int.eq_of_mul_eq_mul_right hz ?_
    grind
  · refine Int.eq_of_mul_eq_mul_right hz ?_
    grind
theorem Rl.refl {a b d : Int} : Rl a b d a b d := ⟨rfl, rfl⟩
theorem bd_part {n : Nat} {a G x : Int} (h : Bd n a) (e : a = G * x) (p : 0 < G) : Bd n x := by
  refine h.of_le ?_
  rw [e, Int.natAbs_mul]
  exact Nat.le_mul_of_pos_left _ (by omega)
theorem log_bd {n : Nat} {a : Int} (h : Bd n a) (l : n ≤ 12999) : a.natAbs.log2 < 13000 := PySem.Flt.log2_lt_of (by decide) (h.mono (m := 13000) (by omega))
theorem e_lowest {n : Nat} {a b d : Int} (ha : Bd n a) (hb : Bd n b) (hd : Bd n d) (nz : d ≠ 0) (l : n ≤ 12000) (h : ∀ x y z, Nf x y z → Rl a b d x y z → Gs n x y z → Q (T3 x y z)) : tf__lowest ξ [.int a, .int b, .int d] Q := by
  obtain ⟨x, y, z, G, eG, pG, ea, eb, ed, cop⟩ := core3 a b d nz
  have la := log_bd ha (by omega)
  have lb := log_bd hb (by omega)
  have ld := log_bd hd (by omega)
  have bx := bd_part ha ea pG
  have by_ := bd_part hb eb pG
  have bz := bd_part hd ed pG
  have zn : z ≠ 0 := fun e => nz (by rw [ed, e, Int.mul_zero])
  refine ifd (fun hneg => ?_) (fun hpos => ?_)
  · rw [← eG]
    have zneg : z < 0 := by
      rcases Int.lt_or_lt_of_ne zn with q | q
      · exact q
      · have := Int.mul_pos pG q
        omega
    have f1 : a.fdiv (-G) = -x := by rw [show a = (-G) * (-x) by rw [Int.neg_mul_neg]; exact ea]; exact Int.mul_fdiv_cancel_left _ (by omega)
    have f2 : b.fdiv (-G) = -y := by rw [show b = (-G) * (-y) by rw [Int.neg_mul_neg]; exact eb]; exact Int.mul_fdiv_cancel_left _ (by omega)
    have f3 : d.fdiv (-G) = -z := by rw [show d = (-G) * (-z) by rw [Int.neg_mul_neg]; exact ed]; exact Int.mul_fdiv_cancel_left _ (by omega)
    refine ⟨⟨by omega, la⟩, ⟨by omega, lb⟩, ⟨by omega, ld⟩, sz (n := 3) (by decide), ?_⟩
    show Q (T3 (a.fdiv (-G)) (b.fdiv (-G)) (d.fdiv (-G)))
    rw [f1, f2, f3]
    refine h _ _ _ ⟨by omega, by simpa using cop⟩ ⟨?_, ?_⟩ ⟨bx.neg, by_.neg, bz.neg, by omega⟩
    · rw [ea, ed]; grind
    · rw [eb, ed]; grind
  · rw [← eG]
    have zp : 0 < z := by
      rcases Int.lt_or_lt_of_ne zn with q | q
      · have := Int.mul_neg_of_pos_of_neg pG q
        omega
      · exact q
    have f1 : a.fdiv G = x := by rw [ea]; exact Int.mul_fdiv_cancel_left _ (by omega)
    have f2 : b.fdiv G = y := by rw [eb]; exact Int.mul_fdiv_cancel_left _ (by omega)
    have f3 : d.fdiv G = z := by rw [ed]; exact Int.mul_fdiv_cancel_left _ (by omega)
    refine ⟨⟨by omega, la⟩, ⟨by omega, lb⟩, ⟨by omega, ld⟩, sz (n := 3) (by decide), ?_⟩
    show Q (T3 (a.fdiv G) (b.fdiv G) (d.fdiv G))
    rw [f1, f2, f3]
    refine h _ _ _ ⟨by omega, cop⟩ ⟨?_, ?_⟩ ⟨bx, by_, bz, by omega⟩
    · rw [ea, ed]; grind
    · rw [eb, ed]; grind
section
variable {a b d c e f : Int} {n m : Nat}
theorem mulp {x y : Int} (h : 1 ≤ x) (k : 1 ≤ y) : 1 ≤ x * y := by
  have := Int.mul_pos (a := x) (b := y) (by omega) (by omega)
  omega
theorem Bd.m2 {x y : Int} (h : Bd n x) (k : Bd m y) : Bd (n + m) (x * y) := h.mul k
theorem bp {x y u v : Int} (h : Bd n x) (k : Bd m y) (h' : Bd n u) (k' : Bd m v) : Bd (n + m + 1) (x * y + u * v) := (h.mul k).add (h'.mul k')
theorem bm {x y u v : Int} (h : Bd n x) (k : Bd m y) (h' : Bd n u) (k' : Bd m v) : Bd (n + m + 1) (x * y - u * v) := (h.mul k).sub (h'.mul k')
theorem e_reduced (g : Gs n a b d) (l : n ≤ 12000) (h : ∀ x y z, Nf x y z → Rl a b d x y z → Gs n x y z → Q (T3 x y z)) : tf_reduced ξ [T3 a b d] Q :=
  ⟨rfl, e_need g.p ⟨rfl, rfl, e_lowest g.ba g.bb g.bd (by have := g.p; omega) l h⟩⟩
theorem e_minus (g : Gs n a b d) (k : Gs m c e f) (l : n + m + 1 ≤ 12000) (h : ∀ x y z, Nf x y z → Rl (a * f - c * d) (b * f - e * d) (d * f) x y z → Gs (n + m + 1) x y z → Q (T3 x y z)) : tf_minus ξ [T3 a b d, T3 c e f] Q := by
  refine ⟨rfl, e_need g.p ⟨rfl, e_need k.p ⟨rfl, rfl, g.ba.cmul k.bd (by omega), k.ba.cmul g.bd (by omega), g.bb.cmul k.bd (by omega), k.bb.cmul g.bd (by omega), g.bd.cmul k.bd (by omega), rfl, ?_⟩⟩⟩
  refine e_lowest ?_ ?_ ((g.bd.mul k.bd).mono (by omega)) (by have := mulp g.p k.p; omega) l h
  · exact (((g.ba.mul k.bd).mono (by omega)).sub ((k.ba.mul g.bd).mono (by omega)) : Bd (n + m + 1) _)
  · exact (((g.bb.mul k.bd).mono (by omega)).sub ((k.bb.mul g.bd).mono (by omega)) : Bd (n + m + 1) _)
end
theorem sgn_mul {k : Int} (h : 1 ≤ k) (n b : Int) : sgn (k * n) (k * b) = sgn n b := by
  have e1 : k * n * (k * n) = k * k * (n * n) := by grind
  have e2 : 5 * (k * b) * (k * b) = k * k * (5 * b * b) := by grind
  have kk : 0 < k * k := Int.mul_pos (by omega) (by omega)
  have m : ∀ x y : Int, k * k * x < k * k * y ↔ x < y := fun x y => Int.mul_lt_mul_left kk
  have z : ∀ x : Int, (0 ≤ k * x ↔ 0 ≤ x) ∧ (k * x ≤ 0 ↔ x ≤ 0) ∧ (0 < k * x ↔ 0 < x) := by
    intro x
    have h1 : 0 < x → 0 < k * x := fun q => Int.mul_pos (by omega) q
    have h2 : x < 0 → k * x < 0 := fun q => Int.mul_neg_of_pos_of_neg (by omega) q
    have h3 : x = 0 → k * x = 0 := fun q => by rw [q, Int.mul_zero]
    rcases Int.lt_trichotomy x 0 with q | q | q
    · have := h2 q; omega
    · have := h3 q; omega
    · have := h1 q; omega
  unfold sgn
  rw [e1, e2]
  simp only [m, (z n).1, (z n).2.1, (z n).2.2, (z b).1, (z b).2.1, (z b).2.2]
theorem sg_mul {k : Int} (h : 1 ≤ k) (a b : Int) : sg (k * a) (k * b) = sg a b := by
  show sgn (2 * (k * a) + k * b) (k * b) = sgn (2 * a + b) b
  rw [show 2 * (k * a) + k * b = k * (2 * a + b) by grind, sgn_mul h]
/-- a golden number whose value is (A + B g) / 2 -/
def Gv (n : Nat) (A B : Int) (p : D) : Prop := ∃ a b d, p = T3 a b d ∧ Gs n a b d ∧ a * 2 = A * d ∧ b * 2 = B * d
theorem gv_minus {n m : Nat} {A B A' B' : Int} {p q : D} (g : Gv n A B p) (k : Gv m A' B' q) (l : n + m + 1 ≤ 12000) (h : ∀ r, Gv (n + m + 1) (A - A') (B - B') r → Q r) : tf_minus ξ [p, q] Q := by
  obtain ⟨a, b, d, rfl, g1, ea, eb⟩ := g
  obtain ⟨c, e, f, rfl, g2, ec, ee⟩ := k
  refine e_minus g1 g2 l fun x y z nf r gs => h _ ⟨x, y, z, rfl, gs, ?_, ?_⟩
  · obtain ⟨r1, r2⟩ := r
    have p1 := mulp g1.p g2.p
    refine Int.eq_of_mul_eq_mul_right (a := d * f) (by omega) ?_
    grind
  · obtain ⟨r1, r2⟩ := r
    have p1 := mulp g1.p g2.p
    refine Int.eq_of_mul_eq_mul_right (a := d * f) (by omega) ?_
    grind
theorem gv_sign {n : Nat} {A B : Int} {p : D} (g : Gv n A B p) (l : n ≤ 5000) (h : Q (.int (sg A B))) : tf_sign ξ [p] Q := by
  obtain ⟨a, b, d, rfl, g1, ea, eb⟩ := g
  have e : sg a b = sg A B := by
    rw [← sg_mul g1.p A B, ← sg_two a b]
    congr 1 <;> grind
  refine ⟨rfl, e_need g1.p ⟨rfl, e_sop (g1.ba.mono l) (g1.bb.mono l) ?_⟩⟩
  rw [e]
  exact h
end K92
set_option Elab.async false
set_option linter.all false
set_option maxHeartbeats 400000
set_option maxRecDepth 100000
namespace K92
open PySem PySem.Spec L2 DL
variable {ξ : XT} {Q : D → Prop}
/-! ### the point of a row -/
def pA (k : R5) (j : Int) : Int := 2 * k.at_ j - (k.at_ ((j + 4) % 5) + k.at_ ((j + 1) % 5))
def pB (k : R5) (j : Int) : Int := k.at_ ((j + 4) % 5) + k.at_ ((j + 1) % 5) - (k.at_ ((j + 3) % 5) + k.at_ ((j + 2) % 5))
abbrev PTB : TDS := (dSeq (dAsg (dBin gAddA (dBin gIx (dVar 0) (dBin gSub (dVar 2) (dC (.int 1)))) (dBin gIx (dVar 0) (dBin gMod (dBin gAddA (dVar 2) (dC (.int 1))) (dC (.int 5))))) (dgName 3))
    (dSeq (dAsg (dBin gAddA (dBin gIx (dVar 0) (dBin gSub (dVar 2) (dC (.int 2)))) (dBin gIx (dVar 0) (dBin gMod (dBin gAddA (dVar 2) (dC (.int 2))) (dC (.int 5))))) (dgName 4))
    (dApp 1 (dCallX 1 tf_reduced (dCons (dTup (dCons (dBin gSub (dBin gMulA (dC (.int 2)) (dBin gIx (dVar 0) (dVar 2))) (dVar 3)) (dCons (dBin gSub (dVar 3) (dVar 4)) (dCons (dC (.int 2)) dNil)))) dNil)))))
section
variable {De : DEnds} {ζ : XW} {k : R5}
theorem pA_bd (b : Bk 800 k) {j : Int} : Bd 805 (pA k j) := by
  have h1 : Bd 802 (2 * k.at_ j) := (Bd.mul (n := 2) Bd.lit b.at_).mono (by decide)
  exact (h1.sub ((b.at_.add b.at_ : Bd 801 _).mono (by decide))).mono (by decide)
theorem pB_bd (b : Bk 800 k) {j : Int} : Bd 805 (pB k j) := ((b.at_.add b.at_ : Bd 801 _).sub (b.at_.add b.at_)).mono (by decide)
theorem pt_turn {j : Int} (j0 : 0 ≤ j) (j4 : j ≤ 4) (b : Bk 800 k) {l : List D} {s3 s4 : Slot} (hl : l.length ≤ 100) (h : ∀ p, Gv 805 (pA k j) (pB k j) p → ∀ s3 s4, De.nx [.d k.D, .own (l ++ [p]), .d (.int j), s3, s4]) : PTB ζ De [.d k.D, .own l, .d (.int j), s3, s4] := by
  have hll : l.length < sizeLine := by rw [sizeLine_eq]; omega
  have c : CMulW 2 (k.at_ j) := Bd.cmul (n := 2) Bd.lit b.at_
  have two2 : Bd 805 (2 : Int) := (Bd.lit (by decide) : Bd 3 2).mono (by decide)
  have z : ∀ {η : XT} {P : D → Prop}, (∀ p, Gv 805 (pA k j) (pB k j) p → P p) → tf_reduced η [T3 (pA k j) (pB k j) 2] P := fun h => e_reduced ⟨pA_bd b, pB_bd b, two2, by decide⟩ (by decide) fun x y w nf r gs => h _ ⟨x, y, w, rfl, gs, r.1, r.2⟩
  rcases five j0 j4 with rfl | rfl | rfl | rfl | rfl
  · exact ⟨p5, p5, c, szN 3, rfl, z fun p g => ⟨hll, h p g _ _⟩⟩
  · exact ⟨p5, p5, c, szN 3, rfl, z fun p g => ⟨hll, h p g _ _⟩⟩
  · exact ⟨p5, p5, c, szN 3, rfl, z fun p g => ⟨hll, h p g _ _⟩⟩
  · exact ⟨p5, p5, c, szN 3, rfl, z fun p g => ⟨hll, h p g _ _⟩⟩
  · exact ⟨p5, p5, c, szN 3, rfl, z fun p g => ⟨hll, h p g _ _⟩⟩
theorem pt_cons {j : Int} (j0 : 0 ≤ j) (j4 : j ≤ 4) (b : Bk 800 k) {l xs : List D} {s2 s3 s4 : Slot} (hl : l.length ≤ 100) (h : ∀ p, Gv 805 (pA k j) (pB k j) p → ∀ s2 s3 s4, forD (dgName 2) PTB ζ De xs [.d k.D, .own (l ++ [p]), s2, s3, s4]) : forD (dgName 2) PTB ζ De (.int j :: xs) [.d k.D, .own l, s2, s3, s4] := by
  have z := pt_turn (ζ := ζ) (De := { De with nx := forD (dgName 2) PTB ζ De xs, ct := forD (dgName 2) PTB ζ De xs, bk := De.nx }) (s3 := s3) (s4 := s4) j0 j4 b hl fun p g s3 s4 => h p g _ _ _
  exact for_consG z
end
/-- a point -/
def Pt (k : R5) (c : D) : Prop := ∃ p0 p1 p2 p3 p4, c = .tup [p0, p1, p2, p3, p4] ∧ Gv 805 (pA k 0) (pB k 0) p0 ∧ Gv 805 (pA k 1) (pB k 1) p1 ∧ Gv 805 (pA k 2) (pB k 2) p2 ∧ Gv 805 (pA k 3) (pB k 3) p3 ∧ Gv 805 (pA k 4) (pB k 4) p4
theorem e_needR {k : R5} (q : Q .non) : tf__need_row ξ [k.D] Q := ⟨rfl, e_isR (pd_R k).pl q⟩
theorem e_point {k : R5} (b : Bk 800 k) (q : ∀ c, Pt k c → Q c) : tf_point_of ξ [k.D] Q := by
  have z : forD (dgName 2) PTB (fun x _ => ξ x) { nx := (dFreeze 1 (dRet (dCB gTuple (dCons (dVar 1) dNil)))) (fun x _ => ξ x) { nx := fun _ => Q .non, rt := Q }, rt := Q } [.int 0, .int 1, .int 2, .int 3, .int 4] [.d k.D, .own [], .un, .un, .un] := by
    refine pt_cons (by decide) (by decide) b (Nat.zero_le _) fun p0 h0 _ _ _ => ?_
    refine pt_cons (by decide) (by decide) b (by show 1 ≤ 100; decide) fun p1 h1 _ _ _ => ?_
    refine pt_cons (by decide) (by decide) b (by show 2 ≤ 100; decide) fun p2 h2 _ _ _ => ?_
    refine pt_cons (by decide) (by decide) b (by show 3 ≤ 100; decide) fun p3 h3 _ _ _ => ?_
    refine pt_cons (by decide) (by decide) b (by show 4 ≤ 100; decide) fun p4 h4 _ _ _ => ?_
    exact for_nil (q _ ⟨p0, p1, p2, p3, p4, rfl, h0, h1, h2, h3, h4⟩)
  exact ⟨rfl, e_needR ⟨szN 0, ⟨by decide, by decide⟩, z⟩⟩
theorem Pt.ix {k : R5} {c : D} (h : Pt k c) {d m : Int} {e : Int} (d0 : 0 ≤ d) (d4 : d ≤ 4) (hm : m = 4 ∧ e = (d + 1) % 5 ∨ m = 1 ∧ e = (d + 4) % 5) (q : ∀ p, Gv 805 (pA k e) (pB k e) p → Q p) : gIx c (.int (d - m)) Q := by
  obtain ⟨p0, p1, p2, p3, p4, rfl, h0, h1, h2, h3, h4⟩ := h
  rcases hm with ⟨rfl, rfl⟩ | ⟨rfl, rfl⟩
  · rcases five d0 d4 with rfl | rfl | rfl | rfl | rfl
    · exact q p1 h1
    · exact q p2 h2
    · exact q p3 h3
    · exact q p4 h4
    · exact q p0 h0
  · rcases five d0 d4 with rfl | rfl | rfl | rfl | rfl
    · exact q p4 h4
    · exact q p0 h0
    · exact q p1 h1
    · exact q p2 h2
    · exact q p3 h3
theorem pA_d {k : R5} {d : Int} (d0 : 0 ≤ d) (d4 : d ≤ 4) : pA k ((d + 1) % 5) - pA k ((d + 4) % 5) = 2 * ne k d - fa k d := by
  rcases five d0 d4 with rfl | rfl | rfl | rfl | rfl <;> simp [pA, ne, fa, R5.at_] <;> omega
theorem pB_d {k : R5} {d : Int} (d0 : 0 ≤ d) (d4 : d ≤ 4) : pB k ((d + 1) % 5) - pB k ((d + 4) % 5) = 2 * fa k d + ne k d := by
  rcases five d0 d4 with rfl | rfl | rfl | rfl | rfl <;> simp [pB, ne, fa, R5.at_] <;> omega
/-- the sign of how far one corner lies beyond another one -/
def cs2 (k l : R5) (d : Int) : Int := sg (fa k d - fa l d) (ne k d - ne l d)
theorem cs2_eq {k l : R5} {d : Int} : sg (2 * ne k d - fa k d - (2 * ne l d - fa l d)) (2 * fa k d + ne k d - (2 * fa l d + ne l d)) = cs2 k l d := by
  unfold cs2
  rw [← sg_root (fa k d - fa l d)]
  congr 1 <;> omega
end K92
set_option Elab.async false
set_option linter.all false
set_option maxHeartbeats 400000
set_option maxRecDepth 100000
namespace K92
open PySem PySem.Spec L2 DL
variable {ξ : XT} {Q : D → Prop}
/-! ### parted, by points -/
def E16 (t u : Tl) (d : Int) : List Int := [0, 1, 2, 3].flatMap fun i => [0, 1, 2, 3].map fun j => cs2 (cor t i) (cor u j) d
theorem e16 {t u : Tl} {d : Int} {P : Int → Prop} : (∀ y ∈ E16 t u d, P y) ↔ ∀ i < 4, ∀ j < 4, P (cs2 (cor t i) (cor u j) d) := by
  unfold E16
  constructor
  · intro h i hi j hj
    refine h _ (List.mem_flatMap.mpr ⟨i, by simp only [List.mem_cons, List.not_mem_nil, or_false]; omega, List.mem_map.mpr ⟨j, by simp only [List.mem_cons, List.not_mem_nil, or_false]; omega, rfl⟩⟩)
  · intro h y m
    obtain ⟨i, hi, m⟩ := List.mem_flatMap.mp m
    obtain ⟨j, hj, rfl⟩ := List.mem_map.mp m
    simp only [List.mem_cons, List.not_mem_nil, or_false] at hi hj
    exact h i (by omega) j (by omega)
section
variable {t u : Tl} {d : Int}
theorem fcr_cor {up : Bool} : ∃ i < 4, fcr t d up = cor t i := by
  unfold fcr fc1
  by_cases h1 : inV (.int ((t.r - d) % 5)) (if up = true then [.int 1, .int 2] else [.int 3, .int 4]) = true
  · by_cases h2 : inV (.int ((t.s - d) % 5)) (if up = true then [.int 1, .int 2] else [.int 3, .int 4]) = true
    · exact ⟨3, by decide, by rw [if_pos h1, if_pos h2]; rfl⟩
    · exact ⟨1, by decide, by rw [if_pos h1, if_neg h2]; rfl⟩
  · by_cases h2 : inV (.int ((t.s - d) % 5)) (if up = true then [.int 1, .int 2] else [.int 3, .int 4]) = true
    · exact ⟨2, by decide, by rw [if_neg h1, if_pos h2]; rfl⟩
    · exact ⟨0, by decide, by rw [if_neg h1, if_neg h2]; rfl⟩
theorem fj_w (j : Int) : -(wa j d) ≤ fj j d ∧ fj j d ≤ wa j d := by
  unfold fj wa
  (repeat' split) <;> omega
theorem nj_w (j : Int) : -(wb j d) ≤ nj j d ∧ nj j d ≤ wb j d := by
  unfold nj wb
  (repeat' split) <;> omega
theorem cor_fa (ht : t.Ok) (d0 : 0 ≤ d) (d4 : d ≤ 4) {i : Nat} (hi : i < 4) : fa (fcr t d false) d ≤ fa (cor t i) d ∧ fa (cor t i) d ≤ fa (fcr t d true) d := by
  have f1 := fcr_fa ht d0 d4 (up := false)
  have f2 := fcr_fa ht d0 d4 (up := true)
  simp only [Bool.false_eq_true, if_false, if_true] at f1 f2
  have w1 := fj_w (d := d) t.r
  have w2 := fj_w (d := d) t.s
  rcases four hi with rfl | rfl | rfl | rfl
  · show fa _ d ≤ fa t.k d ∧ fa t.k d ≤ _; omega
  · show fa _ d ≤ fa (t.k.up t.r 1) d ∧ fa (t.k.up t.r 1) d ≤ _
    rw [fa_up ht.r0 ht.r4 d0 d4]; omega
  · show fa _ d ≤ fa (t.k.up t.s 1) d ∧ fa (t.k.up t.s 1) d ≤ _
    rw [fa_up ht.s0 ht.s4 d0 d4]; omega
  · show fa _ d ≤ fa ((t.k.up t.r 1).up t.s 1) d ∧ fa ((t.k.up t.r 1).up t.s 1) d ≤ _
    rw [fa_up ht.s0 ht.s4 d0 d4, fa_up ht.r0 ht.r4 d0 d4]; omega
theorem cor_ne (ht : t.Ok) (d0 : 0 ≤ d) (d4 : d ≤ 4) {i : Nat} (hi : i < 4) : ne (fcr t d false) d ≤ ne (cor t i) d ∧ ne (cor t i) d ≤ ne (fcr t d true) d := by
  have f1 := fcr_ne ht d0 d4 (up := false)
  have f2 := fcr_ne ht d0 d4 (up := true)
  simp only [Bool.false_eq_true, if_false, if_true] at f1 f2
  have w1 := nj_w (d := d) t.r
  have w2 := nj_w (d := d) t.s
  rcases four hi with rfl | rfl | rfl | rfl
  · show ne _ d ≤ ne t.k d ∧ ne t.k d ≤ _; omega
  · show ne _ d ≤ ne (t.k.up t.r 1) d ∧ ne (t.k.up t.r 1) d ≤ _
    rw [ne_up ht.r0 ht.r4 d0 d4]; omega
  · show ne _ d ≤ ne (t.k.up t.s 1) d ∧ ne (t.k.up t.s 1) d ≤ _
    rw [ne_up ht.s0 ht.s4 d0 d4]; omega
  · show ne _ d ≤ ne ((t.k.up t.r 1).up t.s 1) d ∧ ne ((t.k.up t.r 1).up t.s 1) d ≤ _
    rw [ne_up ht.s0 ht.s4 d0 d4, ne_up ht.r0 ht.r4 d0 d4]; omega
/-- all corners of t at least as far as all of u -/
theorem all_bes (ht : t.Ok) (hu : u.Ok) (d0 : 0 ≤ d) (d4 : d ≤ 4) : (∀ i < 4, ∀ j < 4, 0 ≤ cs2 (cor t i) (cor u j) d) ↔ bes u t d = true := by
  unfold bes
  rw [decide_eq_true_eq, fa_sub d0 d4, ne_sub d0 d4]
  constructor
  · intro h
    obtain ⟨i, hi, e1⟩ := fcr_cor (t := t) (d := d) (up := false)
    obtain ⟨j, hj, e2⟩ := fcr_cor (t := u) (d := d) (up := true)
    rw [e1, e2]
    exact h i hi j hj
  · intro h i hi j hj
    have a1 := cor_fa ht d0 d4 hi
    have a2 := cor_fa hu d0 d4 hj
    have b1 := cor_ne ht d0 d4 hi
    have b2 := cor_ne hu d0 d4 hj
    have z := sg_add h (p := (fa (cor t i) d - fa (fcr t d false) d) + (fa (fcr u d true) d - fa (cor u j) d)) (q := (ne (cor t i) d - ne (fcr t d false) d) + (ne (fcr u d true) d - ne (cor u j) d)) (by omega) (by omega)
    unfold cs2
    rw [show fa (cor t i) d - fa (cor u j) d = fa (fcr t d false) d - fa (fcr u d true) d + ((fa (cor t i) d - fa (fcr t d false) d) + (fa (fcr u d true) d - fa (cor u j) d)) by omega, show ne (cor t i) d - ne (cor u j) d = ne (fcr t d false) d - ne (fcr u d true) d + ((ne (cor t i) d - ne (fcr t d false) d) + (ne (fcr u d true) d - ne (cor u j) d)) by omega]
    exact z
theorem cs2_neg {k l : R5} : cs2 k l d = -(cs2 l k d) := by
  unfold cs2
  rw [← sg_neg]
  congr 1 <;> omega
theorem all_bes' (ht : t.Ok) (hu : u.Ok) (d0 : 0 ≤ d) (d4 : d ≤ 4) : (∀ i < 4, ∀ j < 4, cs2 (cor t i) (cor u j) d ≤ 0) ↔ bes t u d = true := by
  rw [← all_bes hu ht d0 d4]
  constructor
  · intro h j hj i hi
    have := h i hi j hj
    rw [cs2_neg] at this
    omega
  · intro h i hi j hj
    have := h j hj i hi
    rw [cs2_neg]
    omega
end
end K92
set_option Elab.async false
set_option linter.all false
set_option maxHeartbeats 400000
set_option maxRecDepth 100000
namespace K92
open PySem PySem.Spec L2 DL
variable {ξ : XT} {Q : D → Prop}
section
variable {t u : Tl} {De : DEnds} {ζ : XW} {U : TDS} {s0 s1 s2 s3 s4 s5 s6 s7 s8 : Slot} {d : Int}
abbrev SB : TDS := (dApp 6 (dCallX 1 tf_sign (dCons (dCallX 2 tf_minus (dCons (dCallX 2 tf_minus (dCons (dBin gIx (dVar 7) (dBin gSub (dVar 5) (dC (.int 4)))) (dCons (dBin gIx (dVar 7) (dBin gSub (dVar 5) (dC (.int 1)))) dNil))) (dCons (dCallX 2 tf_minus (dCons (dBin gIx (dVar 8) (dBin gSub (dVar 5) (dC (.int 4)))) (dCons (dBin gIx (dVar 8) (dBin gSub (dVar 5) (dC (.int 1)))) dNil))) dNil))) dNil)))
theorem s_turn {k l : R5} {c e : D} {xs : List D} (hl : xs.length ≤ 100) (pc : Pt k c) (pe : Pt l e) (d0 : 0 ≤ d) (d4 : d ≤ 4) (h : De.nx [s0, s1, s2, s3, s4, .d (.int d), .own (xs ++ [.int (cs2 k l d)]), .d c, .d e]) : SB ζ De [s0, s1, s2, s3, s4, .d (.int d), .own xs, .d c, .d e] := by
  have hll : xs.length < sizeLine := by rw [sizeLine_eq]; omega
  refine pc.ix d0 d4 (.inl ⟨rfl, rfl⟩) fun p1 g1 => pc.ix d0 d4 (.inr ⟨rfl, rfl⟩) fun p2 g2 => ⟨rfl, gv_minus g1 g2 (by decide) fun r gr => ?_⟩
  rw [pA_d d0 d4, pB_d d0 d4] at gr
  refine pe.ix d0 d4 (.inl ⟨rfl, rfl⟩) fun p3 g3 => pe.ix d0 d4 (.inr ⟨rfl, rfl⟩) fun p4 g4 => ⟨rfl, gv_minus g3 g4 (by decide) fun r' gr' => ?_⟩
  rw [pA_d d0 d4, pB_d d0 d4] at gr'
  refine ⟨rfl, gv_minus gr gr' (by decide) fun r'' gr'' => ⟨rfl, gv_sign gr'' (by decide) ?_⟩⟩
  rw [cs2_eq]
  exact ⟨hll, h⟩
theorem s_cons {k l : R5} {c e : D} {xs es : List D} (hl : xs.length ≤ 100) (pc : Pt k c) (pe : Pt l e) (d0 : 0 ≤ d) (d4 : d ≤ 4) (h : ∀ s8, forD (dgName 8) SB ζ De es [s0, s1, s2, s3, s4, .d (.int d), .own (xs ++ [.int (cs2 k l d)]), .d c, s8]) : forD (dgName 8) SB ζ De (e :: es) [s0, s1, s2, s3, s4, .d (.int d), .own xs, .d c, s8] := by
  have z := s_turn (ζ := ζ) (De := { De with nx := forD (dgName 8) SB ζ De es, ct := forD (dgName 8) SB ζ De es, bk := De.nx }) (s0 := s0) (s1 := s1) (s2 := s2) (s3 := s3) (s4 := s4) hl pc pe d0 d4 (h _)
  exact for_consG z
/-- four points -/
structure P4 (t : Tl) (l : List D) : Prop where
  ex : ∃ c0 c1 c2 c3, l = [c0, c1, c2, c3] ∧ Pt (cor t 0) c0 ∧ Pt (cor t 1) c1 ∧ Pt (cor t 2) c2 ∧ Pt (cor t 3) c3
def row4 (k : R5) (u : Tl) (d : Int) : List Int := [cs2 k (cor u 0) d, cs2 k (cor u 1) d, cs2 k (cor u 2) d, cs2 k (cor u 3) d]
abbrev SO : TDS := (dForV 4 (dgName 8) SB)
theorem s_inner {k : R5} {c : D} {es xs : List D} (hl : xs.length ≤ 90) (pc : Pt k c) (pe : P4 u es) (d0 : 0 ≤ d) (d4 : d ≤ 4) (h : ∀ s8, De.nx [s0, s1, s2, s3, .d (.lst es), .d (.int d), .own (xs ++ (row4 k u d).map D.int), .d c, s8]) : SO ζ De [s0, s1, s2, s3, .d (.lst es), .d (.int d), .own xs, .d c, s8] := by
  obtain ⟨e0, e1, e2, e3, rfl, h0, h1, h2, h3⟩ := pe.ex
  have z : forD (dgName 8) SB ζ De [e0, e1, e2, e3] [s0, s1, s2, s3, .d (.lst [e0, e1, e2, e3]), .d (.int d), .own xs, .d c, s8] := by
    refine s_cons (by omega) pc h0 d0 d4 fun _ => ?_
    refine s_cons (by rw [List.length_append, List.length_singleton]; omega) pc h1 d0 d4 fun _ => ?_
    refine s_cons (by rw [List.length_append, List.length_append, List.length_singleton, List.length_singleton]; omega) pc h2 d0 d4 fun _ => ?_
    refine s_cons (by rw [List.length_append, List.length_append, List.length_append, List.length_singleton, List.length_singleton, List.length_singleton]; omega) pc h3 d0 d4 fun _ => ?_
    refine for_nil ?_
    rw [List.append_assoc, List.append_assoc, List.append_assoc]
    exact h _
  exact z
abbrev SL : TDS := (dForV 2 (dgName 7) SO)
theorem o_cons {k : R5} {c : D} {es xs cs : List D} (hl : xs.length ≤ 90) (pc : Pt k c) (pe : P4 u es) (d0 : 0 ≤ d) (d4 : d ≤ 4) (h : ∀ s7 s8, forD (dgName 7) SO ζ De cs [s0, s1, s2, s3, .d (.lst es), .d (.int d), .own (xs ++ (row4 k u d).map D.int), s7, s8]) : forD (dgName 7) SO ζ De (c :: cs) [s0, s1, s2, s3, .d (.lst es), .d (.int d), .own xs, s7, s8] := by
  have z := s_inner (ζ := ζ) (De := { De with nx := forD (dgName 7) SO ζ De cs, ct := forD (dgName 7) SO ζ De cs, bk := De.nx }) (s0 := s0) (s1 := s1) (s2 := s2) (s3 := s3) (s8 := s8) hl pc pe d0 d4 (h _)
  exact for_consG z
theorem s_outer {es cs : List D} (pc : P4 t cs) (pe : P4 u es) (d0 : 0 ≤ d) (d4 : d ≤ 4) (h : ∀ s7 s8, U ζ De [s0, s1, .d (.lst cs), s3, .d (.lst es), .d (.int d), .own ((E16 t u d).map D.int), s7, s8]) : dSeq SL U ζ De [s0, s1, .d (.lst cs), s3, .d (.lst es), .d (.int d), .own [], s7, s8] := by
  obtain ⟨c0, c1, c2, c3, rfl, h0, h1, h2, h3⟩ := pc.ex
  have z : forD (dgName 7) SO ζ { De with nx := U ζ De } [c0, c1, c2, c3] [s0, s1, .d (.lst [c0, c1, c2, c3]), s3, .d (.lst es), .d (.int d), .own [], s7, s8] := by
    refine o_cons (Nat.zero_le _) h0 pe d0 d4 fun _ _ => ?_
    refine o_cons (by show 4 ≤ 90; decide) h1 pe d0 d4 fun _ _ => ?_
    refine o_cons (by show 8 ≤ 90; decide) h2 pe d0 d4 fun _ _ => ?_
    refine o_cons (by show 12 ≤ 90; decide) h3 pe d0 d4 fun _ _ => ?_
    exact for_nil (h _ _)
  exact z
theorem intsOf_map : ∀ ns : List Int, intsOf (ns.map D.int) = some ns
  | [] => rfl
  | n :: ns => by
    show (intsOf (ns.map D.int)).map (n :: ·) = some (n :: ns)
    rw [intsOf_map ns]; rfl
abbrev SI : TDS := (dIfS (dtOr (dTest (dBin gGe (dCB (gExtL false) (dCons (dVar 6) dNil)) (dC (.int 0)))) (dTest (dBin gLe (dCB (gExtL true) (dCons (dVar 6) dNil)) (dC (.int 0)))))
    (dRet (dC (.bl true)))
    dNext)
theorem s_if {ns : List Int} (hn : 0 < ns.length) (h1 : (∀ y ∈ ns, 0 ≤ y) → De.rt (.bl true)) (h2 : (∀ y ∈ ns, y ≤ 0) → De.rt (.bl true)) (h3 : ¬ (∀ y ∈ ns, 0 ≤ y) → ¬ (∀ y ∈ ns, y ≤ 0) → De.nx [s0, s1, s2, s3, s4, s5, .d (.lst (ns.map D.int)), s7, s8]) : SI ζ De [s0, s1, s2, s3, s4, s5, .d (.lst (ns.map D.int)), s7, s8] := by
  have ex : ∀ {up : Bool} {P : D → Prop}, (∀ m, m ∈ ns → (∀ y, y ∈ ns → (if up = true then y ≤ m else m ≤ y)) → P (.int m)) → gExtL up [.lst (ns.map D.int)] P := by
    intro up P h
    show (match intsOf (ns.map D.int) with
      | some ns => 0 < ns.length ∧ ∀ m, m ∈ ns → (∀ y, y ∈ ns → (if up = true then y ≤ m else m ≤ y)) → P (.int m)
      | none => False)
    rw [intsOf_map]
    exact ⟨hn, h⟩
  have z : gExtL false [.lst (ns.map D.int)] (fun x => gGe x (.int 0) (fun d => match d with | .bl b => (if b = true then De.rt (.bl true) else gExtL true [.lst (ns.map D.int)] (fun x => gLe x (.int 0) (fun d => match d with | .bl b => (if b = true then De.rt (.bl true) else De.nx [s0, s1, s2, s3, s4, s5, .d (.lst (ns.map D.int)), s7, s8]) | _ => False))) | _ => False)) := by
    refine ex fun m hm hle => ?_
    refine ifd (fun h => ?_) (fun h => ?_)
    · exact h1 fun y hy => by
        have := hle y hy
        rw [if_neg Bool.false_ne_true] at this
        omega
    · refine ex fun m' hm' hge => ?_
      refine ifd (fun h' => ?_) (fun h' => ?_)
      · exact h2 fun y hy => by
          have := hge y hy
          rw [if_pos rfl] at this
          omega
      · exact h3 (fun f => h (f m hm)) (fun f => h' (f m' hm'))
  exact z
end
end K92
set_option Elab.async false
set_option linter.all false
set_option maxHeartbeats 400000
set_option maxRecDepth 100000
namespace K92
open PySem PySem.Spec L2 DL
variable {ξ : XT} {Q : D → Prop}
section
variable {t u : Tl} {De : DEnds} {ζ : XW} {U : TDS} {s0 s1 s2 s3 s4 s5 s6 s7 s8 : Slot} {d : Int}
theorem cor_bk (b : Bk 700 t.k) (i : Nat) : Bk 800 (cor t i) := by
  unfold cor
  split
  · exact b.mono (by decide)
  · exact (b.up one2 (by decide)).mono (by decide)
  · exact (b.up one2 (by decide)).mono (by decide)
  · exact ((b.up one2 (by decide)).up one2 (by decide)).mono (by decide)
theorem k1 (ht : t.Ok) (b : Bk 700 t.k) (h : ∀ cs s3, P4 t cs → U ζ De [.d t.D, s1, .d (.lst cs), s3, s4, s5, s6, s7, s8]) : dSeq (dAsg (dLc (dCall 1 tf__law_corners (dCons (dVar 0) dNil)) 3 dYes (dCallX 1 tf_point_of (dCons (dVar 3) dNil))) (dgName 2)) U ζ De [.d t.D, s1, s2, s3, s4, s5, s6, s7, s8] :=
  ⟨rfl, e_lcorners ht ⟨szN 4, rfl, e_point (cor_bk b 0) fun c0 p0 => ⟨rfl, e_point (cor_bk b 1) fun c1 p1 => ⟨rfl, e_point (cor_bk b 2) fun c2 p2 => ⟨rfl, e_point (cor_bk b 3) fun c3 p3 => h [c0, c1, c2, c3] _ ⟨⟨c0, c1, c2, c3, rfl, p0, p1, p2, p3⟩⟩⟩⟩⟩⟩⟩
theorem k2 (hu : u.Ok) (b : Bk 700 u.k) (h : ∀ cs s3, P4 u cs → U ζ De [s0, .d u.D, s2, s3, .d (.lst cs), s5, s6, s7, s8]) : dSeq (dAsg (dLc (dCall 1 tf__law_corners (dCons (dVar 1) dNil)) 3 dYes (dCallX 1 tf_point_of (dCons (dVar 3) dNil))) (dgName 4)) U ζ De [s0, .d u.D, s2, s3, s4, s5, s6, s7, s8] :=
  ⟨rfl, e_lcorners hu ⟨szN 4, rfl, e_point (cor_bk b 0) fun c0 p0 => ⟨rfl, e_point (cor_bk b 1) fun c1 p1 => ⟨rfl, e_point (cor_bk b 2) fun c2 p2 => ⟨rfl, e_point (cor_bk b 3) fun c3 p3 => h [c0, c1, c2, c3] _ ⟨⟨c0, c1, c2, c3, rfl, p0, p1, p2, p3⟩⟩⟩⟩⟩⟩⟩
theorem k3 (h : U ζ De [s0, s1, s2, s3, s4, s5, .own [], s7, s8]) : dSeq (dOwn (lLst dNil) 6) U ζ De [s0, s1, s2, s3, s4, s5, s6, s7, s8] := ⟨szN 0, h⟩
theorem k4 {l : List D} (h : U ζ De [s0, s1, s2, s3, s4, s5, .d (.lst l), s7, s8]) : dFreeze 6 U ζ De [s0, s1, s2, s3, s4, s5, .own l, s7, s8] := h
abbrev KB5 : TDS := (dSeq (dOwn (lLst dNil) 6) (dSeq SL (dFreeze 6 SI)))
theorem k_turn (ht : t.Ok) (hu : u.Ok) {cs es : List D} (pc : P4 t cs) (pe : P4 u es) (d0 : 0 ≤ d) (d4 : d ≤ 4) (h1 : lbes t u d = true → De.rt (.bl true)) (h2 : lbes t u d = false → ∀ s6 s7 s8, De.nx [s0, s1, .d (.lst cs), s3, .d (.lst es), .d (.int d), s6, s7, s8]) : KB5 ζ De [s0, s1, .d (.lst cs), s3, .d (.lst es), .d (.int d), s6, s7, s8] := by
  rw [lb_eq ht hu d0 d4] at h1 h2
  refine k3 ?_
  refine s_outer pc pe d0 d4 fun s7 s8 => ?_
  refine k4 ?_
  refine s_if (by show 0 < 16; decide) (fun f => ?_) (fun f => ?_) (fun f g => ?_)
  · have z := (all_bes ht hu d0 d4).mp (e16.mp f)
    exact h1 (by rw [z, Bool.or_true])
  · have z := (all_bes' ht hu d0 d4).mp (e16.mp f)
    exact h1 (by rw [z, Bool.true_or])
  · refine h2 ?_ _ _ _
    rw [Bool.or_eq_false_iff]
    refine ⟨?_, ?_⟩
    · cases e : bes t u d with
      | false => rfl
      | true => exact (g (e16.mpr ((all_bes' ht hu d0 d4).mpr e))).elim
    · cases e : bes u t d with
      | false => rfl
      | true => exact (f (e16.mpr ((all_bes ht hu d0 d4).mpr e))).elim
theorem k_loop (ht : t.Ok) (hu : u.Ok) {cs es : List D} (pc : P4 t cs) (pe : P4 u es) : ∀ {ds : List Int} {De : DEnds} {s5 s6 s7 s8 : Slot}, (∀ d ∈ ds, 0 ≤ d ∧ d ≤ 4) → ((ds.any fun d => lbes t u d) = true → De.rt (.bl true)) → ((ds.any fun d => lbes t u d) = false → ∀ s5 s6 s7 s8, De.nx [s0, s1, .d (.lst cs), s3, .d (.lst es), s5, s6, s7, s8]) → forD (dgName 5) KB5 ζ De (ds.map D.int) [s0, s1, .d (.lst cs), s3, .d (.lst es), s5, s6, s7, s8]
  | [], De, s5, s6, s7, s8, _, _, q2 => q2 rfl _ _ _ _
  | d :: ds, De, s5, s6, s7, s8, h, q1, q2 => by
    obtain ⟨d0, d4⟩ := h d List.mem_cons_self
    rw [List.any_cons] at q1 q2
    have r : ∀ s5 s6 s7 s8, lbes t u d = false → forD (dgName 5) KB5 ζ De (ds.map D.int) [s0, s1, .d (.lst cs), s3, .d (.lst es), s5, s6, s7, s8] := fun s5 s6 s7 s8 e => by
      rw [e, Bool.false_or] at q1 q2
      exact k_loop ht hu pc pe (fun e m => h e (List.mem_cons_of_mem _ m)) q1 q2
    have r1 : lbes t u d = true → De.rt (.bl true) := fun e => by
      rw [e, Bool.true_or] at q1
      exact q1 rfl
    have z := k_turn (ζ := ζ) (De := { De with nx := forD (dgName 5) KB5 ζ De (ds.map D.int), ct := forD (dgName 5) KB5 ζ De (ds.map D.int), bk := De.nx }) (s0 := s0) (s1 := s1) (s3 := s3) (s6 := s6) (s7 := s7) (s8 := s8) ht hu pc pe d0 d4 r1 (fun e _ _ _ => r _ _ _ _ e)
    exact for_consG z
abbrev KT : TDS := (dSeq (dForT (dBin gAddA (dSl (dVar 0) (dPart (dC (.int 1))) dNoPart) (dSl (dVar 1) (dPart (dC (.int 1))) dNoPart)) (dgName 5) KB5) (dRet (dC (.bl false))))
theorem k5 (ht : t.Ok) (hu : u.Ok) {cs es : List D} (pc : P4 t cs) (pe : P4 u es) (q : De.rt (.bl (!ovL t u))) : KT ζ De [.d t.D, .d u.D, .d (.lst cs), s3, .d (.lst es), s5, s6, s7, s8] := by
  unfold ovL at q
  rw [Bool.not_not] at q
  have z : forD (dgName 5) KB5 ζ { De with nx := (dRet (dC (.bl false))) ζ De } [.int t.r, .int t.s, .int u.r, .int u.s] [.d t.D, .d u.D, .d (.lst cs), s3, .d (.lst es), s5, s6, s7, s8] := k_loop (ds := dirs t u) ht hu pc pe (dirs_rng ht hu) (fun e => by rw [e] at q; exact q) (fun e _ _ _ _ => by rw [e] at q; exact q)
  exact ⟨szN 4, z⟩
end
theorem e_parted {t u : Tl} (ht : t.Ok) (hu : u.Ok) (bt : Bk 700 t.k) (bu : Bk 700 u.k) (q : Q (.bl (!ovL t u))) : tf__law_is_parted ξ [t.D, u.D] Q := by
  unfold tf__law_is_parted
  apply st2
  rw [show startD 9 [t.D, u.D] = [.d t.D, .d u.D, .un, .un, .un, .un, .un, .un, .un] from rfl]
  unfold T__law_is_parted
  refine k1 ht bt fun cs s3 pc => ?_
  refine k2 hu bu fun es s3 pe => ?_
  exact k5 ht hu pc pe q
end K92
set_option Elab.async false
set_option linter.all false
set_option maxHeartbeats 400000
set_option maxRecDepth 100000
namespace K92
open PySem PySem.Spec L2 DL
variable {ξ : XT} {Q : D → Prop}
/-! ### in either order -/
theorem ovL_sym {t u : Tl} (ht : t.Ok) (hu : u.Ok) : ovL u t = ovL t u := by
  have e : (dirs t u).any (fun d => lbes t u d) = (dirs t u).any (fun d => lbes u t d) := any_eq fun d m => by
    rw [lb_eq ht hu (dirs_rng ht hu d m).1 (dirs_rng ht hu d m).2, lb_eq hu ht (dirs_rng ht hu d m).1 (dirs_rng ht hu d m).2, Bool.or_comm]
  unfold ovL
  rw [e]
  unfold dirs
  simp only [List.any_cons, List.any_nil, Bool.or_false]
  cases lbes u t t.r <;> cases lbes u t t.s <;> cases lbes u t u.r <;> cases lbes u t u.s <;> rfl
def sym (r s r' s' : Int) : Bool := [(1 : Int), 2].all fun L => [0, 1, 2, 3].all fun i => [0, 1, 2, 3].all fun j => !decide (((⟨z0, r, s⟩ : Tl).E i).2 = ((⟨z0, r', s'⟩ : Tl).E j).2) || (fitL L ⟨z0, r, s⟩ ⟨uk ((⟨z0, r, s⟩ : Tl).E i).1 r' s' j, r', s'⟩ == fitL L ⟨uk ((⟨z0, r, s⟩ : Tl).E i).1 r' s' j, r', s'⟩ ⟨z0, r, s⟩)
def sym10 (r s : Int) : Bool := sym r s 0 1 && (sym r s 0 2 && (sym r s 0 3 && (sym r s 0 4 && (sym r s 1 2 && (sym r s 1 3 && (sym r s 1 4 && (sym r s 2 3 && (sym r s 2 4 && sym r s 3 4))))))))
theorem sym_all {t u : Tl} (ht : t.Ok) (hu : u.Ok) : sym t.r t.s u.r u.s = true := by
  have z : sym10 t.r t.s = true := pairs ht (fun r s => sym10 r s = true) (by decide +kernel) (by decide +kernel) (by decide +kernel) (by decide +kernel) (by decide +kernel) (by decide +kernel) (by decide +kernel) (by decide +kernel) (by decide +kernel) (by decide +kernel)
  unfold sym10 at z
  simp only [Bool.and_eq_true] at z
  obtain ⟨h1, h2, h3, h4, h5, h6, h7, h8, h9, h10⟩ := z
  exact pairs hu (fun r s => sym t.r t.s r s = true) h1 h2 h3 h4 h5 h6 h7 h8 h9 h10
theorem fit_symE {t u : Tl} (ht : t.Ok) (hu : u.Ok) {i j : Nat} (hi : i < 4) (hj : j < 4) (e : u.E j = t.E i) : fit u t = fit t u := by
  have n := sym_all ht hu
  unfold sym at n
  rw [List.all_eq_true] at n
  have n := n t.k.sum (by have := ht.l; simp only [List.mem_cons, List.not_mem_nil, or_false]; omega)
  rw [List.all_eq_true] at n
  have n := n i (by simp only [List.mem_cons, List.not_mem_nil, or_false]; omega)
  rw [List.all_eq_true] at n
  have n := n j (by simp only [List.mem_cons, List.not_mem_nil, or_false]; omega)
  have hd : ((⟨z0, t.r, t.s⟩ : Tl).E i).2 = ((⟨z0, u.r, u.s⟩ : Tl).E j).2 := by
    rw [E_dir (k := z0) (l := t.k) i, E_dir (k := z0) (l := u.k) j]
    exact (congrArg Prod.snd e).symm
  rw [decide_eq_true hd] at n
  have n : fitL t.k.sum ⟨z0, t.r, t.s⟩ ⟨uk ((⟨z0, t.r, t.s⟩ : Tl).E i).1 u.r u.s j, u.r, u.s⟩ = fitL t.k.sum ⟨uk ((⟨z0, t.r, t.s⟩ : Tl).E i).1 u.r u.s j, u.r, u.s⟩ ⟨z0, t.r, t.s⟩ := by simpa using n
  rw [← fit_sh, ← fit_sh] at n
  have e1 : sh t.k ⟨z0, t.r, t.s⟩ = t := sh_z
  have e2 : sh t.k ⟨uk ((⟨z0, t.r, t.s⟩ : Tl).E i).1 u.r u.s j, u.r, u.s⟩ = u := by
    show (⟨t.k.add (uk _ u.r u.s j), u.r, u.s⟩ : Tl) = u
    rw [← uk_add hj]
    have e3 : t.k.add ((⟨z0, t.r, t.s⟩ : Tl).E i).1 = (u.E j).1 := by
      rw [e]
      have := congrArg Prod.fst (E_sh (k := t.k) (t := ⟨z0, t.r, t.s⟩) (i := i))
      rw [e1] at this
      exact this.symm
    rw [e3, uk_of hj]
  rw [e1, e2] at n
  exact n.symm
theorem pl_E {t : Tl} {x : Ed} {i : Nat} (h : pl t x = some i) : t.E i = x := by
  unfold pl at h
  repeat' split at h
  all_goals first | (cases h; assumption) | cases h
theorem fit_none {t u : Tl} (h : ∀ i < 4, pl u (t.E i) = none) : fit t u = false := by
  unfold fit fitF
  rw [h 0 (by decide), h 1 (by decide), h 2 (by decide), h 3 (by decide)]
theorem fit_sym {t u : Tl} (ht : t.Ok) (hu : u.Ok) : fit u t = fit t u := by
  by_cases c : ∃ i j, i < 4 ∧ j < 4 ∧ u.E j = t.E i
  · obtain ⟨i, j, hi, hj, e⟩ := c
    exact fit_symE ht hu hi hj e
  · rw [fit_none fun i hi => ?_, fit_none fun i hi => ?_]
    · cases h : pl u (t.E i) with
      | none => rfl
      | some j => exact (c ⟨i, j, hi, pl_lt h, pl_E h⟩).elim
    · cases h : pl t (u.E i) with
      | none => rfl
      | some j => exact (c ⟨j, i, pl_lt h, hi, (pl_E h).symm⟩).elim
/-! ### is_pair_right -/
theorem st3 {x y z : D} {T : TDS} {n : Nat} (h : T (fun x _ => ξ x) { nx := fun _ => Q .non, rt := Q } (startD n [x, y, z])) : tfOf n T ξ [x, y, z] Q := h
section
variable {t u : Tl} {De : DEnds} {ζ : XW} {U : TDS} {s0 s3 s4 : Slot}
abbrev du (t u : Tl) : D := .tup [.bl (ovL t u), .bl (fit t u)]
theorem q1 (ht : t.Ok) (hu : u.Ok) (bt : Bk 700 t.k) (bu : Bk 700 u.k) (h : U ζ De [s0, .d t.D, .d u.D, .d (du t u), s4]) : dSeq (dAsg (dTup (dCons (dCall 2 tf__law_do_overlap (dCons (dVar 1) (dCons (dVar 2) dNil))) (dCons (dBin gEq (dCall 2 tf__law_meeting (dCons (dVar 1) (dCons (dVar 2) dNil))) (dC (.int 1))) dNil))) (dgName 3)) U ζ De [s0, .d t.D, .d u.D, s3, s4] := by
  unfold du at h
  rw [← meet_fit] at h
  exact ⟨rfl, e_ovL ht hu (bt.mono (by decide)) (bu.mono (by decide)) ⟨rfl, e_meeting ht hu ⟨szN 2, h⟩⟩⟩
theorem q2 (ht : t.Ok) (hu : u.Ok) (bt : Bk 700 t.k) (bu : Bk 700 u.k) (h : U ζ De [s0, .d t.D, .d u.D, s3, .own [du t u]]) : dSeq (dOwn (lLst (dCons (dTup (dCons (dCallX 2 tf_do_overlap (dCons (dVar 1) (dCons (dVar 2) dNil))) (dCons (dCallX 2 tf_does_fit (dCons (dVar 1) (dCons (dVar 2) dNil))) dNil))) dNil)) 4) U ζ De [s0, .d t.D, .d u.D, s3, s4] := by
  unfold du at h
  rw [← ov_eq ht hu] at h
  exact ⟨rfl, e_ov ht hu (bt.mono (by decide)) (bu.mono (by decide)) ⟨rfl, e_fit ht hu ⟨szN 2, szN 1, h⟩⟩⟩
theorem q3 (ht : t.Ok) (hu : u.Ok) (bt : Bk 700 t.k) (bu : Bk 700 u.k) (h : U ζ De [s0, .d t.D, .d u.D, s3, .own [du t u, du t u]]) : dSeq (dApp 4 (dTup (dCons (dCallKX 2 2 [1, 0] tf_do_overlap (dCons (dVar 1) (dCons (dVar 2) dNil))) (dCons (dCallKX 2 2 [1, 0] tf_does_fit (dCons (dVar 1) (dCons (dVar 2) dNil))) dNil)))) U ζ De [s0, .d t.D, .d u.D, s3, .own [du t u]] := by
  have e : du t u = .tup [.bl (ovC u t), .bl (fit u t)] := by rw [ov_eq hu ht, ovL_sym ht hu, fit_sym ht hu]
  have h : U ζ De [s0, .d t.D, .d u.D, s3, .own ([du t u] ++ [.tup [.bl (ovC u t), .bl (fit u t)]])] := by rw [← e]; exact h
  have l1 : ([du t u] : List D).length < sizeLine := by rw [sizeLine_eq]; show 1 < 16777216; decide
  exact ⟨⟨rfl, rfl⟩, e_ov hu ht (bu.mono (by decide)) (bt.mono (by decide)) ⟨⟨rfl, rfl⟩, e_fit hu ht ⟨szN 2, l1, h⟩⟩⟩
theorem q4 {l : List D} (h : U ζ De [s0, .d t.D, .d u.D, s3, .d (.lst l)]) : dFreeze 4 U ζ De [s0, .d t.D, .d u.D, s3, .own l] := h
theorem du_show {a b : Bool} : showR (.lst [.tup [.bl a, .bl b], .tup [.bl a, .bl b]]) := by
  have g : Gd 300 1 (.tup [.bl a, .bl b]) := (gd_tup (n := 2) (w := 100) (k := 0) (ds := [.bl a, .bl b]) (by
    simp only [List.mem_cons, List.not_mem_nil, or_false, forall_eq_or_imp, forall_eq]
    exact ⟨gd_bl a, gd_bl b⟩) (Nat.le_refl 2)).mono (by decide) (by decide)
  exact (gd_lst (n := 2) (w := 300) (k := 1) (ds := [.tup [.bl a, .bl b], .tup [.bl a, .bl b]]) (by
    simp only [List.mem_cons, List.not_mem_nil, or_false, forall_eq_or_imp, forall_eq]
    exact ⟨g, g⟩) (Nat.le_refl 2)).show (by decide) (by decide)
theorem eqTT {a b : Bool} {P : D → Prop} (h : (a && b) = false) (q : P (.bl false)) : gEq (.tup [.bl a, .bl b]) (.tup [.bl true, .bl true]) P := by
  cases a <;> cases b <;> first | exact ⟨⟨by decide +kernel, by decide +kernel⟩, q⟩ | cases h
theorem neS {a : Str} {P : D → Prop} (q : P (.bl false)) : gNe (.str a) (.str a) P := by
  show P (.bl (!decide (a = a)))
  rw [decide_eq_true rfl]
  exact q
theorem q5 (ht : t.Ok) (hu : u.Ok) (h : U ζ De [s0, .d t.D, .d u.D, .d (du t u), .d (.lst [du t u, du t u])]) : dSeq (dIfS (dtOr (dTest (dBin gNe (dCB gReprR (dCons (dVar 4) dNil)) (dCB gReprR (dCons (dBin gMulA (dLst (dCons (dVar 3) dNil)) (dC (.int 2))) dNil)))) (dTest (dBin gEq (dVar 3) (dTup (dCons (dC (.bl true)) (dCons (dC (.bl true)) dNil))))))
    (dRet (dC (.bl false)))
    dNext) U ζ De [s0, .d t.D, .d u.D, .d (du t u), .d (.lst [du t u, du t u])] := by
  have no : (ovL t u && fit t u) = false := by
    cases h : fit t u with
    | false => rw [Bool.and_false]
    | true => rw [fit_no ht hu h]; rfl
  have z2 : gEq (du t u) (.tup [.bl true, .bl true]) (fun d => match d with | .bl b => (if b = true then De.rt (.bl false) else U ζ De [s0, .d t.D, .d u.D, .d (du t u), .d (.lst [du t u, du t u])]) | _ => False) := eqTT no h
  have z : gNe (.str (toP (.lst [du t u, du t u])).shown) (.str (toP (.lst [du t u, du t u])).shown) (fun d => match d with | .bl b => (if b = true then De.rt (.bl false) else (2 ≤ sizeLine ∧ gEq (du t u) (.tup [.bl true, .bl true]) (fun d => match d with | .bl b => (if b = true then De.rt (.bl false) else U ζ De [s0, .d t.D, .d u.D, .d (du t u), .d (.lst [du t u, du t u])]) | _ => False))) | _ => False) := neS ⟨szN 2, z2⟩
  exact ⟨du_show, szN 1, ⟨by decide, by decide, szN 2⟩, du_show, z⟩
theorem e_draw {n : Int} (h0 : 0 < n) (h1 : n < 1000000000) (h : ∀ r, 0 ≤ r → r < n → Q (.int r)) : tf_draw ξ [.deck, .int n] Q := ⟨⟨h0, h1⟩, h⟩
abbrev QR : TDS := (dRet (dOr (dBin gGt (dCall 2 tf_draw (dCons (dVar 0) (dCons (dC (.int 8)) dNil))) (dC (.int 0))) (dBin gNe (dCall 2 tf__law_is_parted (dCons (dVar 1) (dCons (dVar 2) dNil))) (dBin gIx (dVar 3) (dC (.int 0))))))
theorem q6 (ht : t.Ok) (hu : u.Ok) (bt : Bk 700 t.k) (bu : Bk 700 u.k) (h : De.rt (.bl true)) : QR ζ De [.d .deck, .d t.D, .d u.D, .d (du t u), s4] := by
  refine ⟨rfl, e_draw (by decide) (by decide) fun r r0 r1 => ?_⟩
  refine ifd (fun _ => ?_) (fun _ => ?_)
  · exact h
  · have z : gNe (.bl (!ovL t u)) (.bl (ovL t u)) De.rt := by
      refine neB ?_
      have e : ((!ovL t u) != ovL t u) = true := by cases ovL t u <;> rfl
      rw [e]
      exact h
    exact ⟨rfl, e_parted ht hu bt bu z⟩
end
theorem e_pair {t u : Tl} (ht : t.Ok) (hu : u.Ok) (bt : Bk 700 t.k) (bu : Bk 700 u.k) (q : Q (.bl true)) : tf__law_is_pair_right ξ [.deck, t.D, u.D] Q := by
  unfold tf__law_is_pair_right
  apply st3
  rw [show startD 5 [.deck, t.D, u.D] = [.d .deck, .d t.D, .d u.D, .un, .un] from rfl]
  unfold T__law_is_pair_right
  refine q1 ht hu bt bu ?_
  refine q2 ht hu bt bu ?_
  refine q3 ht hu bt bu ?_
  refine q4 ?_
  refine q5 ht hu ?_
  exact q6 ht hu bt bu q
end K92
set_option Elab.async false
set_option linter.all false
set_option maxHeartbeats 400000
set_option maxRecDepth 100000
namespace K92
open PySem PySem.Spec L2 DL
variable {ξ : XT} {Q : D → Prop}
/-! ### the tiles at an edge -/
section
variable {De : DEnds} {ζ : XW} {U : TDS} {s0 s1 s2 s3 s4 s5 : Slot} {x : Ed} {o : Bool} {g s : Int} {n : Nat}
theorem c1 (h : U ζ De [.d (eD x), s1, s2, .d (.int g), .d (.int ((x.2 + g) % 5)), s5]) : dSeq (dAsg (dBin gMod (dCB gInt (dCons (dBin gAddA (dBin gIx (dVar 0) (dC (.int 1))) (dVar 3)) dNil)) (dC (.int 5))) (dgName 4)) U ζ De [.d (eD x), s1, s2, .d (.int g), s4, s5] := ⟨p5, h⟩
theorem c2 (z0 : 0 ≤ s) (z4 : s ≤ 4) (h : ∀ f : R5, f = x.1 ∨ f = x.1.up s (-1) → U ζ De [.d (eD x), .d (.bl o), s2, .d (.int g), .d (.int s), .d f.D]) : dSeq (dAsg (dIf (dTest (dBin gEq (dBin gLt (dVar 3) (dC (.int 3))) (dVar 1))) (dBin gIx (dVar 0) (dC (.int 0))) (dCall 3 tf__law_up (dCons (dBin gIx (dVar 0) (dC (.int 0))) (dCons (dVar 4) (dCons (dUn gNeg (dC (.int 1))) dNil))))) (dgName 5)) U ζ De [.d (eD x), .d (.bl o), s2, .d (.int g), .d (.int s), s5] := by
  have z : gEq (.bl (decide (g < 3))) (.bl o) (fun d => match d with | .bl b => (if b = true then U ζ De [.d (eD x), .d (.bl o), s2, .d (.int g), .d (.int s), .d x.1.D] else ((3 : Nat) = 3 ∧ tf__law_up (fun _ => False) [x.1.D, .int s, .int (-1)] (fun d => U ζ De [.d (eD x), .d (.bl o), s2, .d (.int g), .d (.int s), .d d]))) | _ => False) := by
    refine eqB ?_
    cases (decide (g < 3) == o) with
    | true => exact h _ (.inl rfl)
    | false => exact ⟨rfl, e_lup z0 z4 (h _ (.inr rfl))⟩
  exact z
abbrev CE : TDS := (dIfS (dTest (dBin (gIn false) (dCB gSum (dCons (dVar 5) dNil)) (dTup (dCons (dC (.int 1)) (dCons (dC (.int 2)) dNil)))))
    (dApp 2 (dTup (dCons (dVar 5) (dCons (dCB gMin2 (dCons (dBin gIx (dVar 0) (dC (.int 1))) (dCons (dVar 4) dNil))) (dCons (dCB gMax2 (dCons (dBin gIx (dVar 0) (dC (.int 1))) (dCons (dVar 4) dNil))) dNil)))))
    dNext)
theorem c3 {f : R5} {l : List D} (hl : l.length ≤ 100) (x0 : 0 ≤ x.2) (x4 : x.2 ≤ 4) (z0 : 0 ≤ s) (z4 : s ≤ 4) (hs : s ≠ x.2) (h1 : ∀ u : Tl, u.Ok → u.k = f → De.nx [.d (eD x), s1, .own (l ++ [u.D]), s3, .d (.int s), .d f.D]) (h2 : De.nx [.d (eD x), s1, .own l, s3, .d (.int s), .d f.D]) : CE ζ De [.d (eD x), s1, .own l, s3, .d (.int s), .d f.D] := by
  have hll : l.length < sizeLine := by rw [sizeLine_eq]; omega
  refine ⟨szN 2, ?_⟩
  show (if inV (.int f.sum) [.int 1, .int 2] = true then _ else _)
  cases hb : inV (.int f.sum) [.int 1, .int 2] with
  | false => exact h2
  | true =>
    rw [in2, Bool.and_eq_true, decide_eq_true_eq, decide_eq_true_eq] at hb
    have ok : (⟨f, lo x.2 s, hi x.2 s⟩ : Tl).Ok := by
      refine ⟨by show f.sum = 1 ∨ f.sum = 2; omega, ?_, ?_, ?_⟩
      · show 0 ≤ lo _ _
        unfold lo
        split <;> omega
      · show lo _ _ < hi _ _
        unfold lo hi
        split <;> split <;> omega
      · show hi _ _ ≤ 4
        unfold hi
        split <;> omega
    exact ⟨szN 3, hll, h1 ⟨f, lo x.2 s, hi x.2 s⟩ ok rfl⟩
abbrev CB : TDS := (dSeq (dAsg (dBin gMod (dCB gInt (dCons (dBin gAddA (dBin gIx (dVar 0) (dC (.int 1))) (dVar 3)) dNil)) (dC (.int 5))) (dgName 4))
    (dSeq (dAsg (dIf (dTest (dBin gEq (dBin gLt (dVar 3) (dC (.int 3))) (dVar 1))) (dBin gIx (dVar 0) (dC (.int 0))) (dCall 3 tf__law_up (dCons (dBin gIx (dVar 0) (dC (.int 0))) (dCons (dVar 4) (dCons (dUn gNeg (dC (.int 1))) dNil))))) (dgName 5)) CE))
/-- tiles, bounded -/
def Ts (n : Nat) (l : List D) : Prop := ∀ d ∈ l, ∃ u : Tl, d = u.D ∧ u.Ok ∧ Bk n u.k
theorem Ts.snoc {l : List D} {u : Tl} (h : Ts n l) (hu : u.Ok) (b : Bk n u.k) : Ts n (l ++ [u.D]) := by
  intro d m
  rcases List.mem_append.mp m with m | m
  · exact h d m
  · simp only [List.mem_singleton] at m
    exact ⟨u, m, hu, b⟩
theorem c_turn {l : List D} (bx : Bk n x.1) (hn : 2 ≤ n) (hl : l.length ≤ 100) (ts : Ts (n + 1) l) (x0 : 0 ≤ x.2) (x4 : x.2 ≤ 4) (g1 : 1 ≤ g) (g4 : g ≤ 4) (h : ∀ l', Ts (n + 1) l' → l'.length ≤ l.length + 1 → ∀ s4 s5, De.nx [.d (eD x), .d (.bl o), .own l', .d (.int g), s4, s5]) : CB ζ De [.d (eD x), .d (.bl o), .own l, .d (.int g), s4, s5] := by
  refine c1 ?_
  refine c2 (by omega) (by omega) fun f hf => ?_
  have bf : Bk (n + 1) f := by
    rcases hf with rfl | rfl
    · exact bx.mono (by omega)
    · exact bx.up (.lit (by decide)) hn
  refine c3 hl x0 x4 (by omega) (by omega) (by omega) (fun u ok e => ?_) (h l ts (by omega) _ _)
  refine h _ (ts.snoc ok (by rw [e]; exact bf)) ?_ _ _
  rw [List.length_append, List.length_singleton]
  omega
theorem c_cons {l xs : List D} (bx : Bk n x.1) (hn : 2 ≤ n) (hl : l.length ≤ 100) (ts : Ts (n + 1) l) (x0 : 0 ≤ x.2) (x4 : x.2 ≤ 4) (g1 : 1 ≤ g) (g4 : g ≤ 4) (h : ∀ l', Ts (n + 1) l' → l'.length ≤ l.length + 1 → ∀ s3 s4 s5, forD (dgName 3) CB ζ De xs [.d (eD x), .d (.bl o), .own l', s3, s4, s5]) : forD (dgName 3) CB ζ De (.int g :: xs) [.d (eD x), .d (.bl o), .own l, s3, s4, s5] := by
  have z := c_turn (ζ := ζ) (De := { De with nx := forD (dgName 3) CB ζ De xs, ct := forD (dgName 3) CB ζ De xs, bk := De.nx }) (o := o) (s4 := s4) (s5 := s5) bx hn hl ts x0 x4 g1 g4 fun l' t' k _ _ => h l' t' k _ _ _
  exact for_consG z
end
theorem e_choices {x : Ed} {o : Bool} {n : Nat} (bx : Bk n x.1) (hn : 2 ≤ n) (x0 : 0 ≤ x.2) (x4 : x.2 ≤ 4) (q : ∀ l, Ts (n + 1) l → l.length ≤ 4 → Q (.lst l)) : tf__law_choices ξ [eD x, .bl o] Q := by
  have z : forD (dgName 3) CB (fun _ _ => False) { nx := (dFreeze 2 (dRet (dVar 2))) (fun _ _ => False) { nx := fun _ => Q .non, rt := Q }, rt := Q } [.int 1, .int 2, .int 3, .int 4] [.d (eD x), .d (.bl o), .own [], .un, .un, .un] := by
    refine c_cons bx hn (Nat.zero_le _) (fun d m => by cases m) x0 x4 (by decide) (by decide) fun l1 t1 k1 _ _ _ => ?_
    have k1 : l1.length ≤ 1 := k1
    refine c_cons bx hn (by omega) t1 x0 x4 (by decide) (by decide) fun l2 t2 k2 _ _ _ => ?_
    refine c_cons bx hn (by omega) t2 x0 x4 (by decide) (by decide) fun l3 t3 k3 _ _ _ => ?_
    refine c_cons bx hn (by omega) t3 x0 x4 (by decide) (by decide) fun l4 t4 k4 _ _ _ => ?_
    exact for_nil (q l4 t4 (by omega))
  exact ⟨szN 0, ⟨by decide, by decide, by decide, by decide⟩, z⟩
end K92
set_option Elab.async false
set_option linter.all false
set_option maxHeartbeats 400000
set_option maxRecDepth 100000
namespace K92
open PySem PySem.Spec L2 DL
variable {ξ : XT} {Q : D → Prop}
/-! ### drawn tiles -/
theorem atI_mem {ds : List D} {r : Int} (h0 : 0 ≤ r) (h1 : r < ds.length) : ∃ d, atI ds r = some d ∧ d ∈ ds := by
  obtain ⟨n, rfl⟩ := Int.eq_ofNat_of_zero_le h0
  have hn : n < ds.length := by omega
  exact ⟨ds[n], atI_nat (List.getElem?_eq_getElem hn), List.getElem_mem hn⟩
theorem e_pick {ds : List D} (h0 : 0 < ds.length) (h1 : ds.length < 1000000000) (h : ∀ d ∈ ds, Q d) : tf__law_pick ξ [.deck, .lst ds] Q := by
  refine ⟨rfl, ⟨by omega, by omega⟩, fun r a b => ?_⟩
  obtain ⟨d, e, m⟩ := atI_mem a b
  show (match atI ds r with | some d => Q d | none => False)
  rw [e]
  exact h d m
abbrev GB : TDS := (dAsg (dBin gAddA (dBin gMulA (dVar 1) (dBin gPow (dC (.int 10)) (dC (.int 6)))) (dCall 2 tf_draw (dCons (dVar 0) (dCons (dBin gPow (dC (.int 10)) (dC (.int 6))) dNil)))) (dgName 1))
section
variable {De : DEnds} {ζ : XW} {s2 : Slot}
theorem g_cons {n : Nat} {f : Int} {x : D} {xs : List D} (b : Bd n f) (hn : n ≤ 400) (h : ∀ f s2, Bd (n + 21) f → forD (dgName 2) GB ζ De xs [.d .deck, .d (.int f), s2]) : forD (dgName 2) GB ζ De (x :: xs) [.d .deck, .d (.int f), s2] := by
  have pw : CPow 10 6 := ⟨by decide, by decide, by decide⟩
  have b4 : Bd 4000 f := b.mono (by omega)
  have c : CMulW f ((10 : Int) ^ (6 : Int).toNat) := b4.cmul (Bd.mono (n := 20) Bd.lit (by decide) : Bd 20 ((10 : Int) ^ (6 : Int).toNat))
  have z : GB ζ { De with nx := forD (dgName 2) GB ζ De xs, ct := forD (dgName 2) GB ζ De xs, bk := De.nx } [.d .deck, .d (.int f), .d x] := by
    refine ⟨pw, c, pw, rfl, e_draw (by decide) (by decide) fun r r0 r1 => h _ _ ?_⟩
    have e1 : (10 : Int) ^ (6 : Int).toNat = 1000000 := rfl
    rw [e1] at r1 ⊢
    unfold Bd at *
    rw [show n + 21 = n + 20 + 1 by omega, Nat.pow_succ]
    have p1 : (2 : Nat) ^ (n + 20) = 2 ^ n * 1048576 := by rw [Nat.pow_add]
    rw [p1]
    generalize (2 : Nat) ^ n = y at *
    omega
  exact for_consG z
end
theorem e_great (h : ∀ f, Bd 110 f → Q (.int f)) : tf__law_great ξ [.deck] Q := by
  have z : forD (dgName 2) GB (fun _ _ => False) { nx := (dRet (dIf (dTest (dBin gEq (dCall 2 tf_draw (dCons (dVar 0) (dCons (dC (.int 2)) dNil))) (dC (.int 0)))) (dVar 1) (dBin gSub (dUn gNeg (dC (.int 1))) (dVar 1)))) (fun _ _ => False) { nx := fun _ => Q .non, rt := Q }, rt := Q } [.int 0, .int 1, .int 2, .int 3, .int 4] [.d .deck, .d (.int 0), .un] := by
    refine g_cons (n := 2) (.lit (by decide)) (by decide) fun _ _ b => ?_
    refine g_cons b (by decide) fun _ _ b => ?_
    refine g_cons b (by decide) fun _ _ b => ?_
    refine g_cons b (by decide) fun _ _ b => ?_
    refine g_cons b (by decide) fun f _ b => ?_
    refine for_nil ⟨rfl, e_draw (by decide) (by decide) fun r r0 r1 => ?_⟩
    refine ifd (fun _ => ?_) (fun _ => ?_)
    · exact h _ (b.mono (by decide))
    · have m1 : Bd 107 (-1 : Int) := (Bd.lit (by decide) : Bd 2 (-1)).mono (by decide)
      exact h _ ((m1.sub b).mono (by decide))
  exact ⟨⟨by decide, by decide⟩, z⟩
end K92
set_option Elab.async false
set_option linter.all false
set_option maxHeartbeats 400000
set_option maxRecDepth 100000
namespace K92
open PySem PySem.Spec L2 DL
variable {ξ : XT} {Q : D → Prop}
abbrev EL : TDE := (dIf (dTest (dBin gEq (dCall 2 tf_draw (dCons (dVar 0) (dCons (dC (.int 6)) dNil))) (dC (.int 0)))) (dCall 1 tf__law_great (dCons (dVar 0) dNil)) (dBin gSub (dCall 2 tf_draw (dCons (dVar 0) (dCons (dC (.int 5)) dNil))) (dC (.int 2))))
theorem el {ζ : XW} {s1 s2 s3 s4 : Slot} (h : ∀ f, Bd 110 f → Q (.int f)) : EL ζ [.d .deck, s1, s2, s3, s4] Q := by
  refine ⟨rfl, e_draw (by decide) (by decide) fun r r0 r1 => ?_⟩
  refine ifd (fun _ => ?_) (fun _ => ?_)
  · exact ⟨rfl, e_great h⟩
  · refine ⟨rfl, e_draw (by decide) (by decide) fun r r0 r1 => h _ ?_⟩
    unfold Bd
    have : (8 : Nat) ≤ 2 ^ 110 := by decide
    omega
theorem l_cons {ζ : XW} {s1 s3 s4 : Slot} {x : D} {xs : List D} {Q' : List D → Prop} (h : ∀ f, Bd 110 f → lcD (dgName 2) dYes EL [.d .deck, s1, .un, s3, s4] xs fun ys => Q' (.int f :: ys)) : lcD (dgName 2) dYes EL [.d .deck, s1, .un, s3, s4] (x :: xs) Q' := el (ζ := fun _ _ => False) (s2 := .d x) (Q := fun y => lcD (dgName 2) dYes EL [.d .deck, s1, .un, s3, s4] xs fun ys => Q' (y :: ys)) h
/-- a tile with its bound -/
structure Bt (n : Nat) (t : Tl) : Prop where
  ok : t.Ok
  b : Bk n t.k
theorem ok_of {k : R5} {j q : Int} (hk : k.sum = 1 ∨ k.sum = 2) (j0 : 0 ≤ j) (j4 : j ≤ 4) (q0 : 0 ≤ q) (q4 : q < 4) : (⟨k, lo j ((j + 1 + q) % 5), hi j ((j + 1 + q) % 5)⟩ : Tl).Ok := by
  refine ⟨hk, ?_, ?_, ?_⟩
  · show 0 ≤ lo _ _
    unfold lo
    split <;> omega
  · show lo _ _ < hi _ _
    unfold lo hi
    split <;> split <;> omega
  · show hi _ _ ≤ 4
    unfold hi
    split <;> omega
theorem e_any (h : ∀ t, Bt 120 t → Q t.D) : tf__law_any_tile ξ [.deck] Q := by
  have z : lcD (dgName 2) dYes EL [.d .deck, .un, .un, .un, .un] [.int 0, .int 1, .int 2, .int 3] (fun ys => (dSeq (dPar 3 2 (dCons (dCB gTuple (dCons (dBin gAddA (dVar 1) (dLst (dCons (dBin gSub (dBin gAddA (dC (.int 1)) (dCall 2 tf_draw (dCons (dVar 0) (dCons (dC (.int 2)) dNil)))) (dCB gSum (dCons (dVar 1) dNil))) dNil))) dNil)) (dCons (dCall 2 tf_draw (dCons (dVar 0) (dCons (dC (.int 5)) dNil))) dNil)))
    (dSeq (dAsg (dBin gMod (dCB gInt (dCons (dBin gAddA (dBin gAddA (dVar 2) (dC (.int 1))) (dCall 2 tf_draw (dCons (dVar 0) (dCons (dC (.int 4)) dNil)))) dNil)) (dC (.int 5))) (dgName 4))
    (dRet (dTup (dCons (dVar 3) (dCons (dCB gMin2 (dCons (dVar 2) (dCons (dVar 4) dNil))) (dCons (dCB gMax2 (dCons (dVar 2) (dCons (dVar 4) dNil))) dNil))))))) (fun _ _ => False) { nx := fun _ => Q .non, rt := Q } [.d .deck, .d (.lst ys), .un, .un, .un]) := by
    refine l_cons (ζ := fun _ _ => False) fun f0 b0 => ?_
    refine l_cons (ζ := fun _ _ => False) fun f1 b1 => ?_
    refine l_cons (ζ := fun _ _ => False) fun f2 b2 => ?_
    refine l_cons (ζ := fun _ _ => False) fun f3 b3 => ?_
    have e : [f0, f1, f2, f3].sum = f0 + (f1 + (f2 + (f3 + 0))) := rfl
    refine ⟨rfl, e_draw (by decide) (by decide) fun r r0 r1 => ⟨szN 1, szN 5, rfl, e_draw (by decide) (by decide) fun j j0 j1 => ⟨rfl, e_draw (by decide) (by decide) fun q q0 q1 => ⟨p5, szN 3, ?_⟩⟩⟩⟩
    have hs : Bd 120 (1 + r - [f0, f1, f2, f3].sum) := by
      rw [e]
      unfold Bd at *
      have p1 : (2 : Nat) ^ 110 * 8 ≤ 2 ^ 120 := by decide
      have p2 : 8 ≤ (2 : Nat) ^ 110 := by decide
      generalize (2 : Nat) ^ 110 = y at *
      generalize (2 : Nat) ^ 120 = w at *
      omega
    refine h ⟨⟨f0, f1, f2, f3, 1 + r - [f0, f1, f2, f3].sum⟩, lo j ((j + 1 + q) % 5), hi j ((j + 1 + q) % 5)⟩ ⟨ok_of ?_ j0 (by omega) q0 q1, ⟨b0.mono (by decide), b1.mono (by decide), b2.mono (by decide), b3.mono (by decide), hs⟩⟩
    show f0 + (f1 + (f2 + (f3 + ((1 + r - [f0, f1, f2, f3].sum) + 0)))) = 1 ∨ f0 + (f1 + (f2 + (f3 + ((1 + r - [f0, f1, f2, f3].sum) + 0)))) = 2
    rw [e]
    omega
  exact ⟨⟨by decide, by rw [sizeLine_eq]; decide⟩, z⟩
end K92
set_option Elab.async false
set_option linter.all false
set_option maxHeartbeats 400000
set_option maxRecDepth 100000
namespace K92
open PySem PySem.Spec L2 DL
variable {ξ : XT} {Q : D → Prop}
theorem st_bg {n : Nat} {x r j m : Int} (hm : Bd n m) (h : Bd n x) : Bd (n + 1) (R5.st x r j m) := by
  unfold R5.st
  split
  · exact h.add hm
  · exact h.mono (by omega)
theorem Bk.upG {n : Nat} {k : R5} {j m : Int} (h : Bk n k) (hm : Bd n m) : Bk (n + 1) (k.up j m) := ⟨st_bg hm h.a, st_bg hm h.b, st_bg hm h.c, st_bg hm h.d, st_bg hm h.e⟩
theorem Bk.sum {n : Nat} {k : R5} (h : Bk n k) : Bd (n + 3) k.sum := by
  have e : k.sum = k.a + (k.b + (k.c + (k.d + (k.e + 0)))) := rfl
  rw [e]
  obtain ⟨a, b, c, d, e⟩ := h
  unfold Bd at *
  rw [show n + 3 = n + 1 + 1 + 1 by omega, Nat.pow_succ, Nat.pow_succ, Nat.pow_succ]
  generalize 2 ^ n = z at *
  omega
theorem cor_bkN {t : Tl} {n : Nat} (b : Bk n t.k) (hn : 2 ≤ n) (i : Nat) : Bk (n + 2) (cor t i) := by
  unfold cor
  split
  · exact b.mono (by omega)
  · exact (b.up one2 hn).mono (by omega)
  · exact (b.up one2 hn).mono (by omega)
  · exact (b.up one2 hn).up one2 (by omega)
section
variable {De : DEnds} {ζ : XW} {U : TDS} {s0 s1 s2 s3 s4 s5 : Slot}
abbrev NB : TDS := (dAsg (dCall 3 tf__law_up (dCons (dVar 2) (dCons (dCall 2 tf_draw (dCons (dVar 0) (dCons (dC (.int 5)) dNil))) (dCons (dBin gSub (dC (.int 1)) (dBin gMulA (dC (.int 2)) (dCall 2 tf_draw (dCons (dVar 0) (dCons (dC (.int 2)) dNil))))) dNil)))) (dgName 2))
theorem n_turn {n : Nat} {k : R5} (b : Bk n k) (hn : 2 ≤ n) (h : ∀ k', Bk (n + 1) k' → De.nx [.d .deck, s1, .d k'.D, s3, s4, s5]) : NB ζ De [.d .deck, s1, .d k.D, s3, s4, s5] := by
  refine ⟨rfl, e_draw (by decide) (by decide) fun j j0 j1 => ⟨rfl, e_draw (by decide) (by decide) fun f f0 f1 => ⟨Bd.cmul (n := 2) Bd.lit (bd_small (n := 2) (m := 2) f0 f1), rfl, e_lup j0 (by omega) (h _ (b.up ?_ hn))⟩⟩⟩
  unfold Bd
  omega
theorem n_loop {n : Nat} : ∀ {xs : List D} {c : Nat} {k : R5} {De : DEnds} {s3 : Slot}, Bk (n + c) k → 2 ≤ n → (∀ k' s3, Bk (n + c + xs.length) k' → De.nx [.d .deck, s1, .d k'.D, s3, s4, s5]) → forD (dgName 3) NB ζ De xs [.d .deck, s1, .d k.D, s3, s4, s5]
  | [], c, k, De, s3, b, hn, h => h _ _ b
  | x :: xs, c, k, De, s3, b, hn, h => by
    have z := n_turn (ζ := ζ) (De := { De with nx := forD (dgName 3) NB ζ De xs, ct := forD (dgName 3) NB ζ De xs, bk := De.nx }) (s1 := s1) (s3 := .d x) (s4 := s4) (s5 := s5) b (by omega) fun k' b' => n_loop (c := c + 1) (by rw [show n + (c + 1) = n + c + 1 by omega]; exact b') hn fun k'' s3 b'' => h k'' s3 (by
      rw [List.length_cons, show n + c + (xs.length + 1) = n + (c + 1) + xs.length by omega]
      exact b'')
    exact for_consG z
theorem x1 {t : Tl} {n : Nat} (g : Bt n t) (hn : 2 ≤ n) (h : ∀ k, Bk (n + 2) k → U ζ De [.d .deck, .d t.D, .d k.D, s3, s4, s5]) : dSeq (dAsg (dCall 2 tf__law_pick (dCons (dVar 0) (dCons (dCall 1 tf__law_corners (dCons (dVar 1) dNil)) dNil))) (dgName 2)) U ζ De [.d .deck, .d t.D, s2, s3, s4, s5] := by
  refine ⟨rfl, e_lcorners g.ok ⟨rfl, e_pick (by show 0 < 4; decide) (by show 4 < 1000000000; decide) ?_⟩⟩
  simp only [List.mem_cons, List.not_mem_nil, or_false, forall_eq_or_imp, forall_eq]
  exact ⟨h _ (cor_bkN g.b hn 0), h _ (cor_bkN g.b hn 1), h _ (cor_bkN g.b hn 2), h _ (cor_bkN g.b hn 3)⟩
theorem x2 {n : Nat} {k : R5} (b : Bk n k) (hn : 2 ≤ n) (h : ∀ k' s3, Bk (n + 4) k' → U ζ De [.d .deck, s1, .d k'.D, s3, s4, s5]) : dSeq (dForR (dCons (dCall 2 tf__law_pick (dCons (dVar 0) (dCons (dLst (dCons (dC (.int 0)) (dCons (dC (.int 1)) (dCons (dC (.int 2)) (dCons (dC (.int 4)) (dCons (dC (.int 1)) (dCons (dC (.int 3)) dNil))))))) dNil))) dNil) (dgName 3) NB) U ζ De [.d .deck, s1, .d k.D, s3, s4, s5] := by
  have z : ∀ xs : List D, xs.length ≤ 4 → forD (dgName 3) NB ζ { De with nx := U ζ De } xs [.d .deck, s1, .d k.D, s3, s4, s5] := fun xs hx => n_loop (c := 0) b hn fun k' s3 b' => h k' s3 (b'.mono (by omega))
  refine ⟨szN 6, rfl, e_pick (by show 0 < 6; decide) (by show 6 < 1000000000; decide) ?_⟩
  simp only [List.mem_cons, List.not_mem_nil, or_false, forall_eq_or_imp, forall_eq]
  exact ⟨⟨⟨by decide, by decide⟩, z [] (by decide)⟩, ⟨⟨by decide, by decide⟩, z [.int 0] (by decide)⟩, ⟨⟨by decide, by decide⟩, z [.int 0, .int 1] (by decide)⟩, ⟨⟨by decide, by decide⟩, z [.int 0, .int 1, .int 2, .int 3] (by decide)⟩, ⟨⟨by decide, by decide⟩, z [.int 0] (by decide)⟩, ⟨by decide, by decide⟩, z [.int 0, .int 1, .int 2] (by decide)⟩
theorem x3 (h : ∀ j q, 0 ≤ j → j ≤ 4 → 0 ≤ q → q < 4 → U ζ De [.d .deck, s1, s2, s3, .d (.int j), .d (.int ((j + 1 + q) % 5))]) : dSeq (dAsg (dCall 2 tf_draw (dCons (dVar 0) (dCons (dC (.int 5)) dNil))) (dgName 4))
    (dSeq (dAsg (dBin gMod (dCB gInt (dCons (dBin gAddA (dBin gAddA (dVar 4) (dC (.int 1))) (dCall 2 tf_draw (dCons (dVar 0) (dCons (dC (.int 4)) dNil)))) dNil)) (dC (.int 5))) (dgName 5)) U) ζ De [.d .deck, s1, s2, s3, s4, s5] :=
  ⟨rfl, e_draw (by decide) (by decide) fun j j0 j1 => ⟨rfl, e_draw (by decide) (by decide) fun q q0 q1 => ⟨p5, h j q j0 (by omega) q0 q1⟩⟩⟩
abbrev XR : TDS := (dRet (dTup (dCons (dCall 3 tf__law_up (dCons (dVar 2) (dCons (dCall 2 tf_draw (dCons (dVar 0) (dCons (dC (.int 5)) dNil))) (dCons (dBin gSub (dBin gAddA (dC (.int 1)) (dCall 2 tf_draw (dCons (dVar 0) (dCons (dC (.int 2)) dNil)))) (dCB gSum (dCons (dVar 2) dNil))) dNil)))) (dCons (dCB gMin2 (dCons (dVar 4) (dCons (dVar 5) dNil))) (dCons (dCB gMax2 (dCons (dVar 4) (dCons (dVar 5) dNil))) dNil)))))
theorem x4 {n : Nat} {k : R5} {j q : Int} (b : Bk n k) (hn : 2 ≤ n) (j0 : 0 ≤ j) (j4 : j ≤ 4) (q0 : 0 ≤ q) (q4 : q < 4) (h : ∀ t, Bt (n + 5) t → De.rt t.D) : XR ζ De [.d .deck, s1, .d k.D, s3, .d (.int j), .d (.int ((j + 1 + q) % 5))] := by
  refine ⟨rfl, e_draw (by decide) (by decide) fun i i0 i1 => ⟨rfl, e_draw (by decide) (by decide) fun r r0 r1 => ⟨rfl, e_lup i0 (by omega) ⟨szN 3, ?_⟩⟩⟩⟩
  have hm : Bd (n + 4) (1 + r - k.sum) := by
    have bs : Bd (n + 3) k.sum := b.sum
    unfold Bd at *
    rw [show n + 4 = n + 3 + 1 by omega, Nat.pow_succ]
    have p1 : 2 ^ 5 ≤ 2 ^ (n + 3) := Nat.pow_le_pow_right (by decide) (by omega)
    generalize (2 : Nat) ^ (n + 3) = z at *
    omega
  refine h ⟨k.up i (1 + r - k.sum), lo j ((j + 1 + q) % 5), hi j ((j + 1 + q) % 5)⟩ ⟨ok_of ?_ j0 j4 q0 q4, (b.mono (m := n + 4) (by omega)).upG hm⟩
  rw [up_sum i0 (by omega)]
  omega
end
theorem e_near {t : Tl} {n : Nat} (g : Bt n t) (hn : 2 ≤ n) (h : ∀ u, Bt (n + 11) u → Q u.D) : tf__law_near ξ [.deck, t.D] Q := by
  unfold tf__law_near
  apply st2
  rw [show startD 6 [.deck, t.D] = [.d .deck, .d t.D, .un, .un, .un, .un] from rfl]
  unfold T__law_near
  refine x1 g hn fun k b => ?_
  refine x2 b (by omega) fun k' s3 b' => ?_
  refine x3 fun j q j0 j4 q0 q4 => ?_
  exact x4 b' (by omega) j0 j4 q0 q4 h
end K92
set_option Elab.async false
set_option linter.all false
set_option maxHeartbeats 400000
set_option maxRecDepth 100000
namespace K92
open PySem PySem.Spec L2 DL
variable {ξ : XT} {Q : D → Prop}
/-! ### a tile with itself -/
def slf (r s : Int) : Bool := !fitL 1 ⟨z0, r, s⟩ ⟨z0, r, s⟩ && !fitL 2 ⟨z0, r, s⟩ ⟨z0, r, s⟩
theorem fit_self {t : Tl} (h : t.Ok) : fit t t = false := by
  have z : slf t.r t.s = true := pairs h (fun r s => slf r s = true) (by decide +kernel) (by decide +kernel) (by decide +kernel) (by decide +kernel) (by decide +kernel) (by decide +kernel) (by decide +kernel) (by decide +kernel) (by decide +kernel) (by decide +kernel)
  unfold slf at z
  rw [Bool.and_eq_true, Bool.not_eq_true', Bool.not_eq_true'] at z
  have e : sh t.k ⟨z0, t.r, t.s⟩ = t := sh_z
  have f : fit t t = fitL t.k.sum ⟨z0, t.r, t.s⟩ ⟨z0, t.r, t.s⟩ := by
    rw [← fit_sh, e]
  rw [f]
  rcases h.l with q | q
  · rw [q]; exact z.1
  · rw [q]; exact z.2
theorem ov_self {t : Tl} : ovC t t = true := by
  unfold ovC
  rw [decide_eq_true rfl]
  rfl
section
variable {De : DEnds} {ζ : XW} {U : TDS} {s0 s1 s2 s3 s4 s5 s6 s7 : Slot} {t : Tl}
theorem tf_show : showR (.tup [.bl true, .bl false]) := (gd_tup (n := 2) (w := 100) (k := 0) (ds := [.bl true, .bl false]) (by
  simp only [List.mem_cons, List.not_mem_nil, or_false, forall_eq_or_imp, forall_eq]
  exact ⟨gd_bl _, gd_bl _⟩) (Nat.le_refl 2)).show (by decide) (by decide)
theorem tf_text : (toP (.tup [.bl true, .bl false])).shown = ("(True, False)" : Str) := by decide +kernel
theorem y1 (g : Bt 700 t) (h : U ζ De [s0, s1, .d t.D, s3, s4, s5, s6, s7]) : dSeq (dIfS (dTest (dBin gNe (dCB gReprR (dCons (dTup (dCons (dCallX 2 tf_do_overlap (dCons (dVar 2) (dCons (dVar 2) dNil))) (dCons (dCallX 2 tf_does_fit (dCons (dVar 2) (dCons (dVar 2) dNil))) dNil))) dNil)) (dC (.str "(True, False)"))))
    (dRet (dC (.bl false)))
    dNext) U ζ De [s0, s1, .d t.D, s3, s4, s5, s6, s7] := by
  refine ⟨rfl, e_ov g.ok g.ok (g.b.mono (by decide)) (g.b.mono (by decide)) ⟨rfl, e_fit g.ok g.ok ?_⟩⟩
  rw [fit_self g.ok, ov_self]
  refine ⟨szN 2, tf_show, ?_⟩
  have z : gNe (.str (toP (.tup [.bl true, .bl false])).shown) (.str "(True, False)") (fun d => match d with | .bl b => (if b = true then De.rt (.bl false) else U ζ De [s0, s1, .d t.D, s3, s4, s5, s6, s7]) | _ => False) := by
    rw [tf_text]
    exact neS h
  exact z
end
end K92
set_option Elab.async false
set_option linter.all false
set_option maxHeartbeats 1000000
set_option maxRecDepth 100000
namespace K92
open PySem PySem.Spec L2 DL
variable {ξ : XT} {Q : D → Prop}
/-! ### is it a tile, by the law -/
theorem e_lii {d : D} (h : plainR d = true) (q : Q (.bl (isI d))) : tf__law_is_integer ξ [d] Q := by
  cases d with
  | int i => exact ⟨rfl, rfl, q⟩
  | bl b => exact ⟨rfl, rfl, q⟩
  | deck => cases h
  | ty n => cases h
  | kt n => cases h
  | _ => exact ⟨rfl, q⟩
theorem lc_odd {x : Slot} : ∀ {ds : List D} {Q' : List D → Prop}, (∀ d ∈ ds, plainR d = true) → Q' (ds.filter fun d => !isI d) → lcD (dgName 1) (dtNot (dTest (dCall 1 tf__law_is_integer (dCons (dVar 1) dNil)))) (dVar 1) [x, .un] ds Q'
  | [], _, _, q => q
  | d :: ds, Q', h, q => by
    have h1 := h d List.mem_cons_self
    have h2 := fun e m => h e (List.mem_cons_of_mem _ m)
    refine ⟨rfl, e_lii h1 ?_⟩
    cases hi : isI d with
    | true =>
      rw [List.filter_cons_of_neg (by rw [hi]; decide)] at q
      exact lc_odd h2 q
    | false =>
      rw [List.filter_cons_of_pos (by rw [hi]; decide)] at q
      exact lc_odd (x := x) (Q' := fun ys => Q' (d :: ys)) h2 q
theorem odds_nil {ds : List D} : (!(ds.filter fun d => !isI d).isEmpty) = !ds.all isI := by
  induction ds with
  | nil => rfl
  | cons d ds ih =>
    cases hi : isI d with
    | true =>
      rw [List.filter_cons_of_neg (by rw [hi]; decide), ih, List.all_cons, hi]
      rfl
    | false =>
      rw [List.filter_cons_of_pos (by rw [hi]; decide), List.all_cons, hi]
      rfl
theorem isT_tup {a b c : D} (h : isTn 5 a = false) : isT (.tup [a, b, c]) = false := by
  cases e : isT (.tup [a, b, c]) with
  | false => rfl
  | true =>
    obtain ⟨t, e1, _⟩ := isT_of e
    cases e1
    exact absurd (show isTn 5 t.k.D = true from rfl) (by rw [h]; decide)
theorem tn_ne {n : Int} {ds : List D} (h : isTn n (.tup ds) = false) : decide ((ds.length : Int) = n) = false := h
theorem e_lit {x : D} (v : Pd x) (q : Q (.bl (isT x))) : tf__law_is_tile ξ [x] Q := by
  cases x with
  | tup ds =>
    refine ⟨rfl, ?_⟩
    show (if (!decide ((ds.length : Int) = 3)) = true then _ else _)
    cases hl : isTn 3 (.tup ds) with
    | false =>
      rw [tn_ne hl]
      rw [isT_n hl] at q
      exact q
    | true =>
      obtain ⟨a, b, c, e⟩ := tn3 hl
      cases e
      have va := v.part a (by simp)
      have vb := v.part b (by simp)
      have vc := v.part c (by simp)
      cases a with
      | tup ds =>
        refine ⟨rfl, ?_⟩
        show (if (!decide ((ds.length : Int) = 5)) = true then _ else _)
        cases h5 : decide ((ds.length : Int) = 5) with
        | false =>
          rw [isT_tup (show isTn 5 (.tup ds) = false from h5)] at q
          exact q
        | true =>
          have l5 : ds.length = 5 := by have := of_decide_eq_true h5; omega
          have c1 : ds.length + 2 ≤ sizeLine := by rw [l5]; exact szN 7
          have c2 : (ds ++ [b, c]).length ≤ sizeLine := by rw [List.length_append]; exact c1
          refine ⟨c1, c2, lc_odd (ds := ds ++ [b, c]) (Q' := fun ys => dBin gNeL (fun _ _ Q => Q (.lst ys)) (dLst dNil) (fun _ _ => False) [] _) (fun d m => ?_) ⟨szN 0, neL ?_⟩⟩
          · rcases List.mem_append.mp m with m | m
            · exact (va.part d m).p
            · simp only [List.mem_cons, List.not_mem_nil, or_false] at m
              rcases m with rfl | rfl
              · exact vb.p
              · exact vc.p
          · rw [odds_nil]
            cases ha : (ds ++ [b, c]).all isI with
            | false =>
              have e : isT (.tup [.tup ds, b, c]) = false := by
                cases e : isT (.tup [.tup ds, b, c]) with
                | false => rfl
                | true =>
                  obtain ⟨t, e1, _⟩ := isT_of e
                  cases e1
                  cases ha
              rw [e] at q
              exact q
            | true =>
              rw [List.all_append] at ha
              simp only [List.all_cons, List.all_nil, Bool.and_true, Bool.and_eq_true] at ha
              obtain ⟨h1, h2, h3⟩ := ha
              obtain ⟨k, rfl⟩ := all5 l5 h1
              obtain ⟨r, rfl⟩ := isI_of h2
              obtain ⟨s, rfl⟩ := isI_of h3
              have e : isT (.tup [k.D, .int r, .int s]) = (inV (.int k.sum) [.int 1, .int 2] && (decide (0 ≤ r) && (decide (r < s) && decide (s ≤ 4)))) := by
                show (isC k.D && (!decide (2 < sm k.D) && (isJ (.int r) && (isJ (.int s) && decide (r < s))))) = _
                rw [isC_D, sm_D, in2]
                show ((decide (1 ≤ k.sum) && decide (k.sum ≤ 4)) && (!decide (2 < k.sum) && ((decide (0 ≤ r) && decide (r ≤ 4)) && ((decide (0 ≤ s) && decide (s ≤ 4)) && decide (r < s))))) = _
                rw [Bool.eq_iff_iff]
                simp only [Bool.and_eq_true, decide_eq_true_eq, Bool.not_eq_true', decide_eq_false_iff_not]
                omega
              have q : Q (.bl (isT (.tup [k.D, .int r, .int s]))) := q
              rw [e] at q
              refine ⟨szN 2, ?_⟩
              refine (andq q fun q => ?_ : if inV (.int k.sum) [.int 1, .int 2] = true then _ else Q (.bl false))
              show (match (D.bl (decide (0 ≤ r)) : D) with | .bl true => (match (D.bl (decide (r < s)) : D) with | .bl true => Q (.bl (decide (s ≤ 4))) | .bl false => Q (.bl false) | _ => False) | .bl false => Q (.bl false) | _ => False)
              cases h0 : decide (0 ≤ r) with
              | false => rw [h0] at q; exact q
              | true =>
                rw [h0] at q
                cases h1 : decide (r < s) with
                | false => rw [h1] at q; exact q
                | true => rw [h1] at q; exact q
      | deck => cases va.p
      | ty n => cases va.p
      | kt n => cases va.p
      | _ =>
        rw [isT_tup rfl] at q
        exact ⟨rfl, q⟩
  | deck => cases v.p
  | ty n => cases v.p
  | kt n => cases v.p
  | _ => exact ⟨rfl, q⟩
end K92
set_option Elab.async false
set_option linter.all false
set_option maxHeartbeats 1000000
set_option maxRecDepth 100000
namespace K92
open PySem PySem.Spec L2 DL
variable {ξ : XT} {Q : D → Prop}
mutual
def bndb : D → Bool
  | .int i => decide (i.natAbs < 2 ^ 240)
  | .tup ds => bndbs ds
  | .lst ds => bndbs ds
  | _ => true
def bndbs : List D → Bool
  | [] => true
  | d :: ds => bndb d && bndbs ds
end
theorem bndbs_mem : ∀ {ds : List D}, bndbs ds = true → ∀ d ∈ ds, bndb d = true
  | [], _, _, m => by cases m
  | x :: ds, h, d, m => by
    obtain ⟨h1, h2⟩ := Bool.and_eq_true_iff.mp (show (bndb x && bndbs ds) = true from h)
    rcases List.mem_cons.mp m with rfl | m
    · exact h1
    · exact bndbs_mem h2 d m
theorem bndbs_of : ∀ {ds : List D}, (∀ d ∈ ds, bndb d = true) → bndbs ds = true
  | [], _ => rfl
  | x :: ds, h => by
    show (bndb x && bndbs ds) = true
    rw [h x List.mem_cons_self, bndbs_of fun d m => h d (List.mem_cons_of_mem _ m)]; rfl
/-- a value with its weight -/
structure Vd (w k : Nat) (d : D) : Prop where
  g : Gd w k d
  o : okb d = true
  b : bndb d = true
theorem Vd.mono {w k w' k' : Nat} {d : D} (v : Vd w k d) (h : w ≤ w' := by decide) (h' : k ≤ k' := by decide) : Vd w' k' d := ⟨v.g.mono h h', v.o, v.b⟩
theorem Vd.pd {w k : Nat} {d : D} (v : Vd w k d) : Pd d := ⟨v.g.pl, v.o⟩
theorem vd_int {i : Int} (h : Bd 240 i) : Vd 100 0 (.int i) := ⟨gd_int (h.mono (by decide)), rfl, decide_eq_true h⟩
theorem vd_tup {w k n : Nat} {ds : List D} (h : ∀ d ∈ ds, Vd w k d) (hl : ds.length ≤ n) (hn : n ≤ 1000 := by decide) : Vd ((w + 2) * n + 4) (k + 1) (.tup ds) :=
  ⟨gd_tup (fun d m => (h d m).g) hl hn, by
    show (decide (ds.length ≤ 1000) && okbs ds) = true
    rw [decide_eq_true (by omega), okbs_of fun d m => (h d m).o]; rfl, bndbs_of fun d m => (h d m).b⟩
theorem vd_lst {w k n : Nat} {ds : List D} (h : ∀ d ∈ ds, Vd w k d) (hl : ds.length ≤ n) (hn : n ≤ 1000 := by decide) : Vd ((w + 2) * n + 4) (k + 1) (.lst ds) :=
  ⟨gd_lst (fun d m => (h d m).g) hl hn, by
    show (decide (ds.length ≤ 1000) && okbs ds) = true
    rw [decide_eq_true (by omega), okbs_of fun d m => (h d m).o]; rfl, bndbs_of fun d m => (h d m).b⟩
def okC (d : D) : Bool := plainR d && (toP d).showable && decide ((toP d).depth ≤ 3) && decide ((toP d).shown.length ≤ 800) && (toP d).shown.cps.toList.all (fun c => decide (c < 16 ^ 8)) && okb d && bndb d
theorem okC_vd {d : D} (h : okC d = true) : Vd 800 3 d := by
  unfold okC at h
  simp only [Bool.and_eq_true, decide_eq_true_eq, List.all_eq_true] at h
  obtain ⟨⟨⟨⟨⟨⟨h1, h2⟩, h3⟩, h4⟩, h5⟩, h6⟩, h7⟩ := h
  exact ⟨⟨h1, h2, h3, h4, h5, (Pd.mk h1 h6).pl.le⟩, h6, h7⟩
theorem vd_bl (b : Bool) : Vd 100 0 (.bl b) := ⟨gd_bl b, rfl, rfl⟩
theorem bk_T {w j : Nat} {t : Tl} (v : Vd w j t.D) : Bk 240 t.k := by
  have z := v.b
  have z : ((decide (t.k.a.natAbs < 2 ^ 240) && (decide (t.k.b.natAbs < 2 ^ 240) && (decide (t.k.c.natAbs < 2 ^ 240) && (decide (t.k.d.natAbs < 2 ^ 240) && (decide (t.k.e.natAbs < 2 ^ 240) && true))))) && _) = true := z
  have z := (Bool.and_eq_true_iff.mp z).1
  simp only [Bool.and_eq_true, decide_eq_true_eq] at z
  exact ⟨z.1, z.2.1, z.2.2.1, z.2.2.2.1, z.2.2.2.2.1⟩
theorem Bk.parts {k : R5} (h : Bk 240 k) : ∀ d ∈ [D.int k.a, .int k.b, .int k.c, .int k.d, .int k.e], Vd 100 0 d := by
  simp only [List.mem_cons, List.not_mem_nil, or_false, forall_eq_or_imp, forall_eq]
  exact ⟨vd_int h.a, vd_int h.b, vd_int h.c, vd_int h.d, vd_int h.e⟩
theorem Bk.vd {k : R5} (h : Bk 240 k) : Vd 700 1 k.D := (vd_tup (n := 5) h.parts (Nat.le_refl 5)).mono
theorem vd_j {j : Int} (h0 : 0 ≤ j) (h4 : j ≤ 4) : Vd 100 0 (.int j) := vd_int (bd_small (n := 5) (m := 240) h0 (by omega))
theorem vd3 {x y z : D} (hx : Vd 4000 3 x) (hy : Vd 4000 3 y) (hz : Vd 4000 3 z) : Vd 16100 4 (.tup [x, y, z]) := (vd_tup (n := 3) (w := 4000) (k := 3) (ds := [x, y, z]) (by
    simp only [List.mem_cons, List.not_mem_nil, or_false, forall_eq_or_imp, forall_eq]
    exact ⟨hx, hy, hz⟩) (Nat.le_refl 3)).mono
theorem vd_T {t : Tl} (h : t.Ok) (b : Bk 240 t.k) : Vd 16100 4 t.D := vd3 b.vd.mono (vd_j h.r0 h.r4).mono (vd_j h.s0 h.s4).mono
/-! ### a value of another kind -/
abbrev T5 (a b c d e : Int) : D := .tup [.int a, .int b, .int c, .int d, .int e]
def C1 : List D := [.non, .bl true, .int 0, .int (-1), .int (10 ^ (60 : Int).toNat), .str "", .str "tile", .tup [], .lst [], .dct [] [], T5 0 0 0 0 1, .tup [.str "a"], .tup [.tup []], .lst [.lst []], .dct [.inr "tile"] [.tup [.int 1]]]
def C2 : List D := [.tup [T5 0 0 0 0 1, .tup [.int 0, .int 1]], .tup [.tup [T5 0 0 0 0 1, .int 0, .int 1], .int 2, .int 3], .str "((0, 0, 0, 0, 1), 0, 1)"]
theorem okCs : (C1 ++ C2).all okC = true := by decide +kernel
theorem c_vd {d : D} (h : d ∈ C1 ++ C2) : Vd 800 3 d := okC_vd (List.all_eq_true.mp okCs d h)
theorem e_odd (h : ∀ d, Vd 800 3 d → Q d) : tf__law_odd ξ [.deck] Q := by
  have pw : CPow 10 60 := ⟨by decide, by decide, by decide⟩
  refine ⟨pw, szN 0, szN 0, szN 5, szN 1, szN 0, szN 1, szN 0, szN 1, szN 1, szN 15, szN 5, szN 2, szN 2, szN 5, szN 3, szN 3, szN 3, szN 18, rfl, ?_⟩
  show tf__law_pick (fun _ => False) [.deck, .lst (C1 ++ C2)] Q
  exact e_pick (by show 0 < 18; decide) (by show 18 < 1000000000; decide) fun d m => h d (c_vd m)
end K92
set_option Elab.async false
set_option linter.all false
set_option maxHeartbeats 400000
set_option maxRecDepth 100000
namespace K92
open PySem PySem.Spec L2 DL
variable {ξ : XT} {Q : D → Prop}
/-! ### a bent tile -/
theorem tupV {l : List D} (h : ∀ d ∈ l, Vd 4000 3 d) (hl : l.length ≤ 4) : Vd 16100 4 (.tup l) := (vd_tup (n := 4) h hl).mono
theorem lstV {l : List D} (h : ∀ d ∈ l, Vd 4000 3 d) (hl : l.length ≤ 4) : Vd 16100 4 (.lst l) := (vd_lst (n := 4) h hl).mono
theorem okC_v {d : D} (h : okC d = true) : Vd 4000 3 d := (okC_vd h).mono
theorem row5 {x0 x1 x2 x3 x4 : D} (v0 : Vd 700 1 x0) (v1 : Vd 700 1 x1) (v2 : Vd 700 1 x2) (v3 : Vd 700 1 x3) (v4 : Vd 700 1 x4) : Vd 4000 3 (.tup [x0, x1, x2, x3, x4]) := (vd_tup (n := 5) (w := 700) (k := 1) (ds := [x0, x1, x2, x3, x4]) (by
    simp only [List.mem_cons, List.not_mem_nil, or_false, forall_eq_or_imp, forall_eq]
    exact ⟨v0, v1, v2, v3, v4⟩) (Nat.le_refl 5)).mono
theorem vd_of {l : List D} {w k : Nat} {P : D → Prop} (h : ∀ d, Vd w k d → P d) (c : ∀ d ∈ l, Vd w k d) : ∀ d ∈ l, P d := fun d m => h d (c d m)
section
variable {De : DEnds} {ζ : XW} {U : TDS} {t : Tl} {w j : Int} {s2 s3 s4 s5 s6 : Slot}
abbrev BE (t : Tl) (w j : Int) : SE := [.d .deck, .d t.D, .d t.k.D, .d (.int t.r), .d (.int t.s), .d (.int w), .d (.int j)]
structure Bx (t : Tl) : Prop where
  ok : t.Ok
  b : Bk 230 t.k
theorem Bx.k {t : Tl} (x : Bx t) : Vd 4000 3 t.k.D := (x.b.mono (m := 240) (by decide)).vd.mono
theorem Bx.r {t : Tl} (x : Bx t) : Vd 4000 3 (.int t.r) := (vd_j x.ok.r0 x.ok.r4).mono
theorem Bx.s {t : Tl} (x : Bx t) : Vd 4000 3 (.int t.s) := (vd_j x.ok.s0 x.ok.s4).mono
theorem Bx.parts {t : Tl} (x : Bx t) : Vd 100 0 (.int t.k.a) ∧ Vd 100 0 (.int t.k.b) ∧ Vd 100 0 (.int t.k.c) ∧ Vd 100 0 (.int t.k.d) ∧ Vd 100 0 (.int t.k.e) := by
  have h := (x.b.mono (m := 240) (by decide)).parts
  simp only [List.mem_cons, List.not_mem_nil, or_false, forall_eq_or_imp, forall_eq] at h
  exact h
theorem three {x y z : D} (hx : Vd 4000 3 x) (hy : Vd 4000 3 y) (hz : Vd 4000 3 z) : Vd 16100 4 (.tup [x, y, z]) := tupV (by
  simp only [List.mem_cons, List.not_mem_nil, or_false, forall_eq_or_imp, forall_eq]
  exact ⟨hx, hy, hz⟩) (by show 3 ≤ 4; decide)
abbrev RT (De : DEnds) : Prop := ∀ d, Vd 16100 4 d → De.rt d
theorem b0 (h : U ζ De [.d .deck, .d t.D, .d t.k.D, .d (.int t.r), .d (.int t.s), s5, s6]) : dSeq (dAsg (dVar 1) (dgTup 3 (dgCons (dgName 2) (dgCons (dgName 3) (dgCons (dgName 4) dgNil))))) U ζ De [.d .deck, .d t.D, s2, s3, s4, s5, s6] := ⟨rfl, h⟩
theorem b1 (h : ∀ w j, 0 ≤ j → j ≤ 4 → U ζ De (BE t w j)) : dSeq (dPar 5 6 (dCons (dCall 2 tf_draw (dCons (dVar 0) (dCons (dC (.int 14)) dNil))) (dCons (dCall 2 tf_draw (dCons (dVar 0) (dCons (dC (.int 5)) dNil))) dNil))) U ζ De [.d .deck, .d t.D, .d t.k.D, .d (.int t.r), .d (.int t.s), s5, s6] := ⟨rfl, e_draw (by decide) (by decide) fun w _ _ => ⟨rfl, e_draw (by decide) (by decide) fun j j0 j1 => h w j j0 (by omega)⟩⟩
theorem one {d : D} (h : Vd 100 0 d) : Vd 4000 3 (.tup [d]) ∧ Vd 4000 3 (.lst [d]) := by
  have z : ∀ e ∈ [d], Vd 100 0 e := fun e m => by simp at m; subst m; exact h
  exact ⟨(vd_tup z (n := 1) (Nat.le_refl 1)).mono, (vd_lst z (n := 1) (Nat.le_refl 1)).mono⟩
def okC1 (d : D) : Bool := okC d && decide ((toP d).depth ≤ 1) && decide ((toP d).shown.length ≤ 700)
theorem okC7 {d : D} (h : okC1 d = true) : Vd 700 1 d := by
  unfold okC1 at h
  simp only [Bool.and_eq_true, decide_eq_true_eq] at h
  obtain ⟨⟨h1, h2⟩, h3⟩ := h
  have v := okC_vd h1
  exact ⟨⟨v.g.1, v.g.2, h2, h3, v.g.5, v.g.6⟩, v.o, v.b⟩
theorem b2 (x : Bx t) (q : RT De) (j0 : 0 ≤ j) (j4 : j ≤ 4) (h : U ζ De (BE t w j)) : dSeq (dIfS (dTest (dBin gLt (dVar 5) (dC (.int 2))))
    (dRet (dIf (dTest (dBin gEq (dVar 5) (dC (.int 0)))) (dCB gList (dCons (dVar 1) dNil)) (dTup (dCons (dCB gList (dCons (dVar 2) dNil)) (dCons (dVar 3) (dCons (dVar 4) dNil))))))
    dNext) U ζ De (BE t w j) := by
  refine ifd (fun _ => ?_) (fun _ => h)
  · refine ifd (fun _ => ?_) (fun _ => ?_)
    · exact q _ (lstV (by
        simp only [List.mem_cons, List.not_mem_nil, or_false, forall_eq_or_imp, forall_eq]
        exact ⟨x.k, x.r, x.s⟩) (by show 3 ≤ 4; decide))
    · exact ⟨szN 3, q _ (three (vd_lst (n := 5) (x.b.mono (m := 240) (by decide)).parts (Nat.le_refl 5)).mono x.r x.s)⟩
theorem b3 (x : Bx t) (q : RT De) (j0 : 0 ≤ j) (j4 : j ≤ 4) (h : U ζ De (BE t w j)) : dSeq (dIfS (dTest (dBin gLt (dVar 5) (dC (.int 4))))
    (dRet (dIf (dTest (dBin gEq (dVar 5) (dC (.int 2)))) (dTup (dCons (dVar 2) (dCons (dVar 4) (dCons (dVar 3) dNil)))) (dTup (dCons (dVar 2) (dCons (dVar 3) (dCons (dVar 3) dNil))))))
    dNext) U ζ De (BE t w j) := by
  refine ifd (fun _ => ?_) (fun _ => h)
  · refine ifd (fun _ => ?_) (fun _ => ?_)
    · exact ⟨szN 3, q _ (three x.k x.s x.r)⟩
    · exact ⟨szN 3, q _ (three x.k x.r x.r)⟩
theorem b4 (x : Bx t) (q : RT De) (j0 : 0 ≤ j) (j4 : j ≤ 4) (h : U ζ De (BE t w j)) : dSeq (dIfS (dTest (dBin gLt (dVar 5) (dC (.int 6))))
    (dRet (dIf (dTest (dBin gEq (dVar 5) (dC (.int 4)))) (dTup (dCons (dVar 2) (dCons (dVar 3) dNil))) (dTup (dCons (dVar 2) (dCons (dVar 3) (dCons (dVar 4) (dCons (dC (.int 0)) dNil)))))))
    dNext) U ζ De (BE t w j) := by
  refine ifd (fun _ => ?_) (fun _ => h)
  · refine ifd (fun _ => ?_) (fun _ => ?_)
    · exact ⟨szN 2, q _ (tupV (by
        simp only [List.mem_cons, List.not_mem_nil, or_false, forall_eq_or_imp, forall_eq]
        exact ⟨x.k, x.r⟩) (by show 2 ≤ 4; decide))⟩
    · exact ⟨szN 4, q _ (tupV (by
        simp only [List.mem_cons, List.not_mem_nil, or_false, forall_eq_or_imp, forall_eq]
        exact ⟨x.k, x.r, x.s, (vd_j (Int.le_refl 0) (by decide)).mono⟩) (by show 4 ≤ 4; decide))⟩
theorem b5 (x : Bx t) (q : RT De) (j0 : 0 ≤ j) (j4 : j ≤ 4) (h : U ζ De (BE t w j)) : dSeq (dIfS (dTest (dBin gEq (dVar 5) (dC (.int 6))))
    (dRet (dTup (dCons (dCall 3 tf__law_up (dCons (dVar 2) (dCons (dVar 6) (dCons (dCall 2 tf__law_pick (dCons (dVar 0) (dCons (dLst (dCons (dC (.int 1)) (dCons (dUn gNeg (dC (.int 1))) (dCons (dC (.int 2)) (dCons (dUn gNeg (dC (.int 2))) (dCons (dC (.int 3)) (dCons (dC (.int 5)) (dCons (dUn gNeg (dC (.int 5))) dNil)))))))) dNil))) dNil)))) (dCons (dVar 3) (dCons (dVar 4) dNil)))))
    dNext) U ζ De (BE t w j) := by
  refine ifd (fun _ => ?_) (fun _ => h)
  · have up : ∀ m, Bd 230 m → De.rt (.tup [(t.k.up j m).D, .int t.r, .int t.s]) := fun m hm => q _ (three ((x.b.upG hm).mono (m := 240) (by decide)).vd.mono x.r x.s)
    refine ⟨szN 7, rfl, e_pick (by show 0 < 7; decide) (by show 7 < 1000000000; decide) ?_⟩
    simp only [List.mem_cons, List.not_mem_nil, or_false, forall_eq_or_imp, forall_eq]
    exact ⟨⟨rfl, e_lup j0 j4 ⟨szN 3, up _ (.lit (by decide))⟩⟩, ⟨rfl, e_lup j0 j4 ⟨szN 3, up _ (.lit (by decide))⟩⟩, ⟨rfl, e_lup j0 j4 ⟨szN 3, up _ (.lit (by decide))⟩⟩, ⟨rfl, e_lup j0 j4 ⟨szN 3, up _ (.lit (by decide))⟩⟩, ⟨rfl, e_lup j0 j4 ⟨szN 3, up _ (.lit (by decide))⟩⟩, ⟨rfl, e_lup j0 j4 ⟨szN 3, up _ (.lit (by decide))⟩⟩, ⟨rfl, e_lup j0 j4 ⟨szN 3, up _ (.lit (by decide))⟩⟩⟩
theorem b6 (x : Bx t) (q : RT De) (j0 : 0 ≤ j) (j4 : j ≤ 4) (h : U ζ De (BE t w j)) : dSeq (dIfS (dTest (dBin gLt (dVar 5) (dC (.int 9))))
    (dRet (dIf (dTest (dBin gEq (dVar 5) (dC (.int 7)))) (dTup (dCons (dSl (dVar 2) dNoPart (dPart (dC (.int 4)))) (dCons (dVar 3) (dCons (dVar 4) dNil)))) (dTup (dCons (dBin gAddA (dVar 2) (dTup (dCons (dC (.int 0)) dNil))) (dCons (dVar 3) (dCons (dVar 4) dNil))))))
    dNext) U ζ De (BE t w j) := by
  refine ifd (fun _ => ?_) (fun _ => h)
  · obtain ⟨p0, p1, p2, p3, p4⟩ := x.parts
    refine ifd (fun _ => ?_) (fun _ => ?_)
    · refine ⟨szN 3, q (.tup [.tup [.int t.k.a, .int t.k.b, .int t.k.c, .int t.k.d], .int t.r, .int t.s]) (three ((vd_tup (n := 5) (w := 100) (k := 0) (ds := [.int t.k.a, .int t.k.b, .int t.k.c, .int t.k.d]) ?_ (by show 4 ≤ 5; decide)).mono) x.r x.s)⟩
      simp only [List.mem_cons, List.not_mem_nil, or_false, forall_eq_or_imp, forall_eq]
      exact ⟨p0, p1, p2, p3⟩
    · refine ⟨szN 1, szN 6, szN 3, q (.tup [.tup [.int t.k.a, .int t.k.b, .int t.k.c, .int t.k.d, .int t.k.e, .int 0], .int t.r, .int t.s]) (three ((vd_tup (n := 6) (w := 100) (k := 0) (ds := [.int t.k.a, .int t.k.b, .int t.k.c, .int t.k.d, .int t.k.e, .int 0]) ?_ (by show 6 ≤ 6; decide)).mono) x.r x.s)⟩
      simp only [List.mem_cons, List.not_mem_nil, or_false, forall_eq_or_imp, forall_eq]
      exact ⟨p0, p1, p2, p3, p4, vd_j (Int.le_refl 0) (by decide)⟩
theorem b7 (x : Bx t) (q : RT De) (j0 : 0 ≤ j) (j4 : j ≤ 4) (h : U ζ De (BE t w j)) : dSeq (dIfS (dTest (dBin gEq (dVar 5) (dC (.int 9))))
    (dRet (dTup (dCons (dBin gAddA (dBin gAddA (dSl (dVar 2) dNoPart (dPart (dVar 6))) (dTup (dCons (dCall 2 tf__law_pick (dCons (dVar 0) (dCons (dLst (dCons (dC (.bl true)) (dCons (dC (.bl false)) (dCons (dC .non) (dCons (dC (.str "0")) (dCons (dTup (dCons (dC (.int 0)) dNil)) (dCons (dLst (dCons (dC (.int 1)) dNil)) dNil))))))) dNil))) dNil))) (dSl (dVar 2) (dPart (dBin gAddA (dVar 6) (dC (.int 1)))) dNoPart)) (dCons (dVar 3) (dCons (dVar 4) dNil)))))
    dNext) U ζ De (BE t w j) := by
  refine ifd (fun _ => ?_) (fun _ => h)
  · obtain ⟨p0, p1, p2, p3, p4⟩ := x.parts
    have v1 : Vd 700 1 (.bl true) := (vd_bl _).mono
    have v2 : Vd 700 1 (.bl false) := (vd_bl _).mono
    have v3 : Vd 700 1 .non := okC7 (by decide +kernel)
    have v4 : Vd 700 1 (.str "0") := okC7 (by decide +kernel)
    have v5 : Vd 700 1 (.tup [.int 0]) := okC7 (by decide +kernel)
    have v6 : Vd 700 1 (.lst [.int 1]) := okC7 (by decide +kernel)
    have w0 : Vd 700 1 (.int t.k.a) := p0.mono
    have w1 : Vd 700 1 (.int t.k.b) := p1.mono
    have w2 : Vd 700 1 (.int t.k.c) := p2.mono
    have w3 : Vd 700 1 (.int t.k.d) := p3.mono
    have w4 : Vd 700 1 (.int t.k.e) := p4.mono
    refine ⟨szN 1, szN 1, szN 6, rfl, e_pick (by show 0 < 6; decide) (by show 6 < 1000000000; decide) ?_⟩
    refine vd_of (w := 700) (k := 1) (fun d v => ?_) (by
      simp only [List.mem_cons, List.not_mem_nil, or_false, forall_eq_or_imp, forall_eq]
      exact ⟨v1, v2, v3, v4, v5, v6⟩)
    rcases five j0 j4 with rfl | rfl | rfl | rfl | rfl
    · exact ⟨szN 1, szN 1, szN 5, szN 3, q _ (three (row5 v w1 w2 w3 w4) x.r x.s)⟩
    · exact ⟨szN 1, szN 2, szN 5, szN 3, q _ (three (row5 w0 v w2 w3 w4) x.r x.s)⟩
    · exact ⟨szN 1, szN 3, szN 5, szN 3, q _ (three (row5 w0 w1 v w3 w4) x.r x.s)⟩
    · exact ⟨szN 1, szN 4, szN 5, szN 3, q _ (three (row5 w0 w1 w2 v w4) x.r x.s)⟩
    · exact ⟨szN 1, szN 5, szN 5, szN 3, q _ (three (row5 w0 w1 w2 w3 v) x.r x.s)⟩
theorem b8 (x : Bx t) (q : RT De) (j0 : 0 ≤ j) (j4 : j ≤ 4) (h : U ζ De (BE t w j)) : dSeq (dIfS (dTest (dBin gEq (dVar 5) (dC (.int 10))))
    (dRet (dTup (dCons (dVar 2) (dCons (dCall 2 tf__law_pick (dCons (dVar 0) (dCons (dLst (dCons (dC (.bl true)) (dCons (dC (.bl false)) (dCons (dC .non) (dCons (dUn gNeg (dC (.int 1))) (dCons (dC (.int 5)) (dCons (dC (.str "0")) (dCons (dTup (dCons (dVar 3) dNil)) dNil)))))))) dNil))) (dCons (dVar 4) dNil)))))
    dNext) U ζ De (BE t w j) := by
  refine ifd (fun _ => ?_) (fun _ => h)
  · refine ⟨szN 1, szN 7, rfl, e_pick (by show 0 < 7; decide) (by show 7 < 1000000000; decide) ?_⟩
    refine vd_of (w := 4000) (k := 3) (fun d v => ⟨szN 3, q _ (three x.k v x.s)⟩) ?_
    simp only [List.mem_cons, List.not_mem_nil, or_false, forall_eq_or_imp, forall_eq]
    exact ⟨okC_v (by decide +kernel), okC_v (by decide +kernel), okC_v (by decide +kernel), okC_v (by decide +kernel), okC_v (by decide +kernel), okC_v (by decide +kernel), (one (vd_j x.ok.r0 x.ok.r4)).1⟩
theorem b9 (x : Bx t) (q : RT De) (j0 : 0 ≤ j) (j4 : j ≤ 4) (h : U ζ De (BE t w j)) : dSeq (dIfS (dTest (dBin gEq (dVar 5) (dC (.int 11))))
    (dRet (dTup (dCons (dVar 2) (dCons (dVar 3) (dCons (dCall 2 tf__law_pick (dCons (dVar 0) (dCons (dLst (dCons (dC (.bl true)) (dCons (dC (.int 5)) (dCons (dC .non) (dCons (dC (.str "4")) (dCons (dUn gNeg (dC (.int 1))) (dCons (dLst (dCons (dVar 4) dNil)) (dCons (dBin gPow (dC (.int 10)) (dC (.int 30))) dNil)))))))) dNil))) dNil)))))
    dNext) U ζ De (BE t w j) := by
  refine ifd (fun _ => ?_) (fun _ => h)
  · refine ⟨szN 1, ⟨by decide, by decide, by decide⟩, szN 7, rfl, e_pick (by show 0 < 7; decide) (by show 7 < 1000000000; decide) ?_⟩
    refine vd_of (w := 4000) (k := 3) (fun d v => ⟨szN 3, q _ (three x.k x.r v)⟩) ?_
    simp only [List.mem_cons, List.not_mem_nil, or_false, forall_eq_or_imp, forall_eq]
    exact ⟨okC_v (by decide +kernel), okC_v (by decide +kernel), okC_v (by decide +kernel), okC_v (by decide +kernel), okC_v (by decide +kernel), (one (vd_j x.ok.s0 x.ok.s4)).2, okC_v (by decide +kernel)⟩
theorem b10 (x : Bx t) (q : RT De) : (dRet (dIf (dTest (dBin gEq (dVar 5) (dC (.int 12)))) (dTup (dCons (dTup (dCons (dVar 2) (dCons (dVar 3) (dCons (dVar 4) dNil)))) dNil)) (dCall 1 tf__law_odd (dCons (dVar 0) dNil)))) ζ De (BE t w j) := by
  refine ifd (fun _ => ?_) (fun _ => ?_)
  · refine ⟨szN 3, szN 1, q _ ((vd_tup (n := 1) (w := 12100) (k := 3) (ds := [.tup [t.k.D, .int t.r, .int t.s]]) ?_ (Nat.le_refl 1)).mono)⟩
    simp only [List.mem_cons, List.not_mem_nil, or_false, forall_eq]
    refine (vd_tup (n := 3) (w := 700) (k := 1) (ds := [t.k.D, .int t.r, .int t.s]) ?_ (Nat.le_refl 3)).mono
    simp only [List.mem_cons, List.not_mem_nil, or_false, forall_eq_or_imp, forall_eq]
    exact ⟨(x.b.mono (m := 240) (by decide)).vd, (vd_j x.ok.r0 x.ok.r4).mono, (vd_j x.ok.s0 x.ok.s4).mono⟩
  · exact ⟨rfl, e_odd fun d v => q d v.mono⟩
end
theorem e_bent {t : Tl} (x : Bx t) (h : ∀ d, Vd 16100 4 d → Q d) : tf__law_bent_tile ξ [.deck, t.D] Q := by
  unfold tf__law_bent_tile
  apply st2
  rw [show startD 7 [.deck, t.D] = [.d .deck, .d t.D, .un, .un, .un, .un, .un] from rfl]
  unfold T__law_bent_tile
  refine b0 ?_
  refine b1 fun w j j0 j4 => ?_
  refine b2 x h j0 j4 ?_
  refine b3 x h j0 j4 ?_
  refine b4 x h j0 j4 ?_
  refine b5 x h j0 j4 ?_
  refine b6 x h j0 j4 ?_
  refine b7 x h j0 j4 ?_
  refine b8 x h j0 j4 ?_
  refine b9 x h j0 j4 ?_
  exact b10 x h
end K92
set_option Elab.async false
set_option linter.all false
set_option maxHeartbeats 400000
set_option maxRecDepth 100000
namespace K92
open PySem PySem.Spec L2 DL
variable {ξ : XT} {Q : D → Prop}
/-! ### what the law makes of a call -/
abbrev rtn (d : D) : D := .tup [.str "returned", d]
abbrev bad (d : D) : D := .tup [.str "BadTile", d]
theorem m_BadTile_BadTile : mm_BadTile "BadTile" = some true := by decide +kernel
theorem e_bad {Th : TDE} {env : SE} {ξ : XW}
    (h : ∀ (X : DX → Prop) (P : D → Prop), (∀ d, Q (bad d) → X ⟨"BadTile", [("thing", d)]⟩) → (∀ d, Q (rtn d) → P d) → Th (fun x _ => X x) (hide env) P) :
    dLam 3 T__law_bad Th ξ env Q := by
  intro v
  refine ⟨rfl, h _ _ ?_ ?_⟩
  · intro d q
    unfold wDs
    dsimp only
    rw [m_BadTile_BadTile]
    intro a
    exact ⟨rfl, szN 2, q⟩
  · intro d q
    exact ⟨szN 2, q⟩
theorem gd_two {x : Str} {d : D} (h : Gd 16100 4 d) (hx : x.length ≤ 10) (c : Cs x) : Gd 40000 5 (.tup [.str x, d]) :=
  (gd_tup (n := 2) (w := 16100) (k := 4) (ds := [.str x, d]) (by
    simp only [List.mem_cons, List.not_mem_nil, or_false, forall_eq_or_imp, forall_eq]
    exact ⟨(gd_str hx c).mono (by decide) (by decide), h⟩) (Nat.le_refl 2)).mono (by decide) (by decide)
def toTl : D → Tl
  | .tup [.tup [.int a, .int b, .int c, .int d, .int e], .int r, .int s] => ⟨⟨a, b, c, d, e⟩, r, s⟩
  | _ => ⟨⟨0, 0, 0, 0, 0⟩, 0, 0⟩
def due (x y : D) : D := if isT x = true then (if isT y = true then rtn (.bl (ovL (toTl x) (toTl y))) else bad y) else bad x
theorem due_gd {x y : D} (v : Vd 16100 4 x) (u : Vd 16100 4 y) : Gd 40000 5 (due x y) := by
  unfold due
  split
  · split
    · exact gd_two ((gd_bl _).mono (by decide) (by decide)) (by decide) (cs_of _)
    · exact gd_two u.g (by decide) (cs_of _)
  · exact gd_two v.g (by decide) (cs_of _)
theorem nope {p : Prop} {b : Bool} (h : b = false) : b = true → p := fun z => by rw [h] at z; cases z
theorem XO {x y : D} (v : Vd 16100 4 x) (u : Vd 16100 4 y) (q : Q (due x y)) {X : DX → Prop} {P : D → Prop} (c1 : ∀ d, Q (bad d) → X ⟨"BadTile", [("thing", d)]⟩) (c3 : ∀ d, Q (rtn d) → P d) : tf_do_overlap X [x, y] P := by
  unfold due at q
  cases h : isT x with
  | false =>
    rw [h] at q
    exact ⟨rfl, e_needT v.pd (fun _ => c1 x q) (nope h)⟩
  | true =>
    rw [h] at q
    cases h2 : isT y with
    | false =>
      rw [h2] at q
      exact ⟨rfl, e_needT v.pd (fun z => by rw [h] at z; cases z) fun _ => ⟨rfl, e_needT u.pd (fun _ => c1 y q) (nope h2)⟩⟩
    | true =>
      rw [h2] at q
      obtain ⟨t, rfl, ht⟩ := isT_of h
      obtain ⟨w, rfl, hw⟩ := isT_of h2
      have q : Q (rtn (.bl (ovL t w))) := q
      rw [← ov_eq ht hw] at q
      exact e_ov ht hw ((bk_T v).mono (by decide)) ((bk_T u).mono (by decide)) (c3 _ q)
/-! ### refusals -/
def noT (x y : D) : List D := [x, y].filter fun d => !isT d
section
variable {De : DEnds} {ζ : XW} {U : TDS} {t u : Tl} {x y : D} {s0 s1 s2 s3 s4 s5 s6 s7 s8 s9 : Slot}
theorem vd_X {t : Tl} (x : Bx t) : Vd 16100 4 t.D := vd_T x.ok (x.b.mono (by decide))
theorem r1 (xt : Bx t) (h : ∀ x, Vd 16100 4 x → U ζ De [.d .deck, .d t.D, s2, .d x, s4, s5, s6, s7, s8, s9]) : dSeq (dAsg (dIf (dTest (dBin gGt (dCall 2 tf_draw (dCons (dVar 0) (dCons (dC (.int 3)) dNil))) (dC (.int 0)))) (dCall 2 tf__law_bent_tile (dCons (dVar 0) (dCons (dVar 1) dNil))) (dVar 1)) (dgName 3)) U ζ De [.d .deck, .d t.D, s2, s3, s4, s5, s6, s7, s8, s9] :=
  ⟨rfl, e_draw (by decide) (by decide) fun r _ _ => ifd (fun _ => ⟨rfl, e_bent xt fun d v => h d v⟩) (fun _ => h _ (vd_X xt))⟩
theorem r2 (xu : Bx u) (h : ∀ y, Vd 16100 4 y → U ζ De [.d .deck, s1, .d u.D, s3, .d y, s5, s6, s7, s8, s9]) : dSeq (dAsg (dIf (dTest (dBin gGt (dCall 2 tf_draw (dCons (dVar 0) (dCons (dC (.int 3)) dNil))) (dC (.int 0)))) (dCall 2 tf__law_bent_tile (dCons (dVar 0) (dCons (dVar 2) dNil))) (dVar 2)) (dgName 4)) U ζ De [.d .deck, s1, .d u.D, s3, s4, s5, s6, s7, s8, s9] :=
  ⟨rfl, e_draw (by decide) (by decide) fun r _ _ => ifd (fun _ => ⟨rfl, e_bent xu fun d v => h d v⟩) (fun _ => h _ (vd_X xu))⟩
theorem lc_noT : ∀ {ds : List D} {Q' : List D → Prop}, (∀ d ∈ ds, Pd d) → Q' (ds.filter fun d => !isT d) → lcD (dgName 7) (dtNot (dTest (dCall 1 tf__law_is_tile (dCons (dVar 7) dNil)))) (dVar 7) [s0, s1, s2, s3, s4, s5, s6, .un, s8, s9] ds Q'
  | [], _, _, q => q
  | d :: ds, Q', h, q => by
    have h1 := h d List.mem_cons_self
    have h2 := fun e m => h e (List.mem_cons_of_mem _ m)
    refine ⟨rfl, e_lit h1 ?_⟩
    cases hi : isT d with
    | true =>
      rw [List.filter_cons_of_neg (by rw [hi]; decide)] at q
      exact lc_noT h2 q
    | false =>
      rw [List.filter_cons_of_pos (by rw [hi]; decide)] at q
      exact lc_noT (Q' := fun ys => Q' (d :: ys)) h2 q
theorem gd_pair (v : Vd 16100 4 x) (w : Vd 16100 4 y) : Gd 40000 5 (.tup [x, y]) := (gd_tup (n := 2) (w := 16100) (k := 4) (ds := [x, y]) (by
    simp only [List.mem_cons, List.not_mem_nil, or_false, forall_eq_or_imp, forall_eq]
    exact ⟨v.g, w.g⟩) (Nat.le_refl 2)).mono (by decide) (by decide)
theorem r3 (v : Vd 16100 4 x) (w : Vd 16100 4 y) (h : ∀ s7, U ζ De [s0, s1, s2, .d x, .d y, .d (.lst (noT x y)), .d (.str (toP (.tup [x, y])).shown), s7, s8, s9]) : dSeq (dPar 5 6 (dCons (dLcT (dTup (dCons (dVar 3) (dCons (dVar 4) dNil))) 7 (dtNot (dTest (dCall 1 tf__law_is_tile (dCons (dVar 7) dNil)))) (dVar 7)) (dCons (dCB gReprR (dCons (dTup (dCons (dVar 3) (dCons (dVar 4) dNil))) dNil)) dNil))) U ζ De [s0, s1, s2, .d x, .d y, s5, s6, s7, s8, s9] := by
  refine ⟨szN 2, szN 2, lc_noT (ds := [x, y]) (fun d m => ?_) ⟨szN 2, (gd_pair v w).show (by decide) (by decide), h _⟩⟩
  simp only [List.mem_cons, List.not_mem_nil, or_false] at m
  rcases m with rfl | rfl
  · exact v.pd
  · exact w.pd
theorem r4 (v : Vd 16100 4 x) (w : Vd 16100 4 y) (h : U ζ De [s0, s1, s2, .d x, .d y, s5, s6, s7, .d (due x y), s9]) : dSeq (dAsg (dLam 3 T__law_bad (dCallX 2 tf_do_overlap (dCons (dVar 3) (dCons (dVar 4) dNil)))) (dgName 8)) U ζ De [s0, s1, s2, .d x, .d y, s5, s6, s7, s8, s9] :=
  e_bad (ξ := ζ) (Q := fun d => U ζ De [s0, s1, s2, .d x, .d y, s5, s6, s7, .d d, s9]) fun X P c1 c3 => ⟨rfl, XO (Q := fun d => U ζ De [s0, s1, s2, .d x, .d y, s5, s6, s7, .d d, s9]) v w h c1 c3⟩
theorem ix0 {x : D} {l : List D} {P : D → Prop} (h : P x) : gIx (.lst (x :: l)) (.int 0) P := by
  show (match atI (x :: l) 0 with | some d => P d | none => False)
  rw [show atI (x :: l) 0 = some x from atI_nat (j := 0) rfl]
  exact h
theorem r5 (v : Vd 16100 4 x) (w : Vd 16100 4 y) (h : U ζ De [s0, s1, s2, .d x, .d y, .d (.lst (noT x y)), s6, s7, s8, .d (due x y)]) : dSeq (dAsg (dIf (dTest (dBin gNeL (dVar 5) (dLst dNil))) (dTup (dCons (dC (.str "BadTile")) (dCons (dBin gIx (dVar 5) (dC (.int 0))) dNil))) (dTup (dCons (dC (.str "returned")) (dCons (dCall 2 tf__law_do_overlap (dCons (dVar 3) (dCons (dVar 4) dNil))) dNil)))) (dgName 9)) U ζ De [s0, s1, s2, .d x, .d y, .d (.lst (noT x y)), s6, s7, s8, s9] := by
  unfold due at h
  unfold noT at h ⊢
  cases hx : isT x with
  | false =>
    rw [hx] at h
    rw [List.filter_cons_of_pos (by rw [hx]; decide)] at h ⊢
    generalize List.filter (fun d => !isT d) [y] = l at h ⊢
    have z : dTup (dCons (dC (D.str (Str.ofString "BadTile"))) (dCons (dBin gIx (dVar 5) (dC (D.int 0))) dNil)) ζ [s0, s1, s2, Slot.d x, Slot.d y, Slot.d (D.lst (x :: l)), s6, s7, s8, s9] fun x_1 => dgName 9 x_1 [s0, s1, s2, Slot.d x, Slot.d y, Slot.d (D.lst (x :: l)), s6, s7, s8, s9] (U ζ De) := ix0 ⟨szN 2, h⟩
    exact ⟨szN 0, z⟩
  | true =>
    rw [hx] at h
    rw [List.filter_cons_of_neg (by rw [hx]; decide)] at h ⊢
    cases hy : isT y with
    | false =>
      rw [hy] at h
      rw [List.filter_cons_of_pos (by rw [hy]; decide)] at h ⊢
      generalize List.filter (fun d => !isT d) [] = l at h ⊢
      have z : dTup (dCons (dC (D.str (Str.ofString "BadTile"))) (dCons (dBin gIx (dVar 5) (dC (D.int 0))) dNil)) ζ [s0, s1, s2, Slot.d x, Slot.d y, Slot.d (D.lst (y :: l)), s6, s7, s8, s9] fun x_1 => dgName 9 x_1 [s0, s1, s2, Slot.d x, Slot.d y, Slot.d (D.lst (y :: l)), s6, s7, s8, s9] (U ζ De) := ix0 ⟨szN 2, h⟩
      exact ⟨szN 0, z⟩
    | true =>
      rw [hy] at h
      rw [List.filter_cons_of_neg (by rw [hy]; decide), List.filter_nil] at h ⊢
      obtain ⟨t, rfl, ht⟩ := isT_of hx
      obtain ⟨u, rfl, hu⟩ := isT_of hy
      refine ⟨szN 0, neL (ds := []) ?_⟩
      exact ⟨rfl, e_ovL ht hu ((bk_T v).mono (by decide)) ((bk_T w).mono (by decide)) ⟨szN 2, h⟩⟩
theorem eqS {a : Str} {P : D → Prop} (q : P (.bl true)) : gEq (.str a) (.str a) P := by
  show P (.bl (decide (a = a)))
  rw [decide_eq_true rfl]
  exact q
abbrev RR : TDS := (dRet (dAnd (dBin gEq (dCB gReprR (dCons (dVar 8) dNil)) (dCB gReprR (dCons (dVar 9) dNil))) (dBin gEq (dCB gReprR (dCons (dTup (dCons (dVar 3) (dCons (dVar 4) dNil))) dNil)) (dVar 6))))
theorem r6 (v : Vd 16100 4 x) (w : Vd 16100 4 y) (h : De.rt (.bl true)) : RR ζ De [s0, s1, s2, .d x, .d y, s5, .d (.str (toP (.tup [x, y])).shown), s7, .d (due x y), .d (due x y)] := by
  have g := (due_gd v w).show (by decide) (by decide)
  refine ⟨g, g, ?_⟩
  have z2 : gEq (.str (toP (.tup [x, y])).shown) (.str (toP (.tup [x, y])).shown) De.rt := eqS h
  have z : gEq (.str (toP (due x y)).shown) (.str (toP (due x y)).shown) (fun d => match d with | .bl b => (if b = true then (2 ≤ sizeLine ∧ showR (.tup [x, y]) ∧ gEq (.str (toP (.tup [x, y])).shown) (.str (toP (.tup [x, y])).shown) De.rt) else De.rt (.bl false)) | _ => False) := eqS ⟨szN 2, (gd_pair v w).show (by decide) (by decide), z2⟩
  exact z
end
theorem st10 {x y z : D} {T : TDS} {n : Nat} (h : T (fun x _ => ξ x) { nx := fun _ => Q .non, rt := Q } (startD n [x, y, z])) : tfOf n T ξ [x, y, z] Q := h
theorem e_ref {t u : Tl} (xt : Bx t) (xu : Bx u) (q : Q (.bl true)) : tf__law_is_refusal_right ξ [.deck, t.D, u.D] Q := by
  unfold tf__law_is_refusal_right
  apply st10
  rw [show startD 10 [.deck, t.D, u.D] = [.d .deck, .d t.D, .d u.D, .un, .un, .un, .un, .un, .un, .un] from rfl]
  unfold T__law_is_refusal_right
  refine r1 xt fun x v => ?_
  refine r2 xu fun y w => ?_
  refine r3 v w fun s7 => ?_
  refine r4 v w ?_
  refine r5 v w ?_
  exact r6 v w q
end K92
set_option Elab.async false
set_option linter.all false
set_option maxHeartbeats 400000
set_option maxRecDepth 100000
namespace K92
open PySem PySem.Spec L2 DL
variable {ξ : XT} {Q : D → Prop}
/-! ### the law -/
section
variable {De : DEnds} {ζ : XW} {U : TDS} {t u : Tl} {s0 s2 s3 s4 s5 s6 s7 : Slot}
theorem w_m0 (h : ∀ t, Bt 120 t → U ζ De [s0, .d .deck, .d t.D, s3, s4, s5, s6, s7]) : dSeq (dAsg (dCall 1 tf__law_any_tile (dCons (dVar 1) dNil)) (dgName 2)) U ζ De [s0, .d .deck, s2, s3, s4, s5, s6, s7] := ⟨rfl, e_any h⟩
theorem w_t1 {n : Nat} (g : Bt n t) (hn : 120 ≤ n) (h : ∀ u, Bt (n + 11) u → U ζ De [s0, .d .deck, .d t.D, s3, .d u.D, s5, s6, s7]) : dSeq (dAsg (dIf (dTest (dBin gGt (dCall 2 tf_draw (dCons (dVar 1) (dCons (dC (.int 8)) dNil))) (dC (.int 0)))) (dCall 2 tf__law_near (dCons (dVar 1) (dCons (dVar 2) dNil))) (dCall 1 tf__law_any_tile (dCons (dVar 1) dNil))) (dgName 4)) U ζ De [s0, .d .deck, .d t.D, s3, s4, s5, s6, s7] :=
  ⟨rfl, e_draw (by decide) (by decide) fun r _ _ => ifd (fun _ => ⟨rfl, e_near g (by omega) h⟩) (fun _ => ⟨rfl, e_any fun u g => h u ⟨g.ok, g.b.mono (by omega)⟩⟩)⟩
abbrev w_PF : TDT := (dtNot (dTest (dCall 3 tf__law_is_pair_right (dCons (dVar 1) (dCons (dVar 2) (dCons (dVar 4) dNil))))))
theorem w_t2 {n : Nat} (g : Bt n t) (gu : Bt n u) (hn : n ≤ 230) (h : U ζ De [s0, .d .deck, .d t.D, s3, .d u.D, s5, s6, s7]) : dSeq (dIfS (dtOr w_PF (dtNot (dTest (dCall 3 tf__law_is_refusal_right (dCons (dVar 1) (dCons (dVar 2) (dCons (dVar 4) dNil)))))))
    (dRet (dC (.bl false)))
    dNext) U ζ De [s0, .d .deck, .d t.D, s3, .d u.D, s5, s6, s7] :=
  ⟨rfl, e_pair g.ok gu.ok (g.b.mono (by omega)) (gu.b.mono (by omega)) ⟨rfl, e_ref ⟨g.ok, g.b.mono (by omega)⟩ ⟨gu.ok, gu.b.mono (by omega)⟩ h⟩⟩
theorem w_t3 {n : Nat} (g : Bt n t) (gu : Bt n u) (h : ∀ t, Bt n t → De.nx [s0, .d .deck, .d t.D, s3, .d u.D, s5, s6, s7]) : dAsg (dCall 2 tf__law_pick (dCons (dVar 1) (dCons (dLst (dCons (dVar 2) (dCons (dVar 4) dNil))) dNil))) (dgName 2) ζ De [s0, .d .deck, .d t.D, s3, .d u.D, s5, s6, s7] := by
  refine ⟨szN 2, rfl, e_pick (by show 0 < 2; decide) (by show 2 < 1000000000; decide) ?_⟩
  simp only [List.mem_cons, List.not_mem_nil, or_false, forall_eq_or_imp, forall_eq]
  exact ⟨h t g, h u gu⟩
abbrev w_LB : TDS := (dSeq (dAsg (dIf (dTest (dBin gGt (dCall 2 tf_draw (dCons (dVar 1) (dCons (dC (.int 8)) dNil))) (dC (.int 0)))) (dCall 2 tf__law_near (dCons (dVar 1) (dCons (dVar 2) dNil))) (dCall 1 tf__law_any_tile (dCons (dVar 1) dNil))) (dgName 4))
    (dSeq (dIfS (dtOr w_PF (dtNot (dTest (dCall 3 tf__law_is_refusal_right (dCons (dVar 1) (dCons (dVar 2) (dCons (dVar 4) dNil)))))))
    (dRet (dC (.bl false)))
    dNext)
    (dAsg (dCall 2 tf__law_pick (dCons (dVar 1) (dCons (dLst (dCons (dVar 2) (dCons (dVar 4) dNil))) dNil))) (dgName 2))))
theorem w_l_turn {n : Nat} (g : Bt n t) (hn : 120 ≤ n) (hn2 : n + 11 ≤ 230) (h : ∀ t s4, Bt (n + 11) t → De.nx [s0, .d .deck, .d t.D, s3, s4, s5, s6, s7]) : w_LB ζ De [s0, .d .deck, .d t.D, s3, s4, s5, s6, s7] := by
  refine w_t1 g hn fun u gu => ?_
  have g' : Bt (n + 11) t := ⟨g.ok, g.b.mono (by omega)⟩
  refine w_t2 g' gu hn2 ?_
  exact w_t3 g' gu fun t gt => h t _ gt
theorem w_l_loop : ∀ {xs : List D} {n : Nat} {t : Tl} {De : DEnds} {s3 s4 : Slot}, Bt n t → 120 ≤ n → n + 11 * xs.length ≤ 230 → (∀ t s3 s4, Bt 230 t → De.nx [s0, .d .deck, .d t.D, s3, s4, s5, s6, s7]) → forD (dgName 3) w_LB ζ De xs [s0, .d .deck, .d t.D, s3, s4, s5, s6, s7]
  | [], n, t, De, s3, s4, g, h1, h2, h => h t _ _ ⟨g.ok, g.b.mono (by simpa using h2)⟩
  | x :: xs, n, t, De, s3, s4, g, h1, h2, h => by
    rw [List.length_cons] at h2
    refine for_consG ?_
    exact w_l_turn (s3 := .d x) g h1 (by omega) fun t s4 gt => w_l_loop (n := n + 11) gt (by omega) (by omega) h
theorem w_m2 (g : Bt 120 t) (h : ∀ t s3 s4, Bt 230 t → U ζ De [s0, .d .deck, .d t.D, s3, s4, s5, s6, s7]) : dSeq (dForR (dCons (dCall 2 tf__law_pick (dCons (dVar 1) (dCons (dLst (dCons (dC (.int 6)) (dCons (dC (.int 4)) (dCons (dC (.int 9)) dNil)))) dNil))) dNil) (dgName 3) w_LB) U ζ De [s0, .d .deck, .d t.D, s3, s4, s5, s6, s7] := by
  have z : ∀ xs : List D, xs.length ≤ 9 → forD (dgName 3) w_LB ζ { De with nx := U ζ De } xs [s0, .d .deck, .d t.D, s3, s4, s5, s6, s7] := fun xs hx => w_l_loop g (Nat.le_refl _) (by omega) h
  refine ⟨szN 3, rfl, e_pick (by show 0 < 3; decide) (by show 3 < 1000000000; decide) ?_⟩
  simp only [List.mem_cons, List.not_mem_nil, or_false, forall_eq_or_imp, forall_eq]
  exact ⟨⟨⟨by decide, by decide⟩, z (intsD 0 6) (by decide)⟩, ⟨⟨by decide, by decide⟩, z (intsD 0 4) (by decide)⟩, ⟨by decide, by decide⟩, z (intsD 0 9) (by decide)⟩
theorem w_E_bk {t : Tl} {n : Nat} (b : Bk n t.k) (hn : 2 ≤ n) (i : Nat) : Bk (n + 1) (t.E i).1 := by
  unfold Tl.E
  split
  · exact b.mono (by omega)
  · exact b.mono (by omega)
  · exact b.up one2 hn
  · exact b.up one2 hn
theorem w_m3 {n : Nat} (g : Bt n t) (hn : 2 ≤ n) (h : ∀ (x : Ed) m o, Bk (n + 1) x.1 → 0 ≤ x.2 → x.2 ≤ 4 → U ζ De [s0, .d .deck, .d t.D, s3, s4, .d (eD x), .d m, .d (.bl o)]) : dSeq (dAsg (dCall 2 tf__law_pick (dCons (dVar 1) (dCons (dCall 1 tf__law_marked (dCons (dVar 2) dNil)) dNil))) (dgTup 3 (dgCons (dgName 5) (dgCons (dgName 6) (dgCons (dgName 7) dgNil))))) U ζ De [s0, .d .deck, .d t.D, s3, s4, s5, s6, s7] := by
  refine ⟨rfl, e_marked g.ok ⟨rfl, e_pick (by show 0 < 4; decide) (by show 4 < 1000000000; decide) ?_⟩⟩
  simp only [List.mem_cons, List.not_mem_nil, or_false, forall_eq_or_imp, forall_eq]
  have z : ∀ i, dgTup 3 (dgCons (dgName 5) (dgCons (dgName 6) (dgCons (dgName 7) dgNil))) (mkd t i) [s0, .d .deck, .d t.D, s3, s4, s5, s6, s7] (U ζ De) := fun i => ⟨rfl, h (t.E i) _ _ (w_E_bk g.b hn i) (E_rng g.ok i).1 (E_rng g.ok i).2⟩
  exact ⟨z 0, z 1, z 2, z 3⟩
abbrev w_CB2 : TDS := (dIfS w_PF
    (dRet (dC (.bl false)))
    dNext)
theorem w_c_loop {n : Nat} (g : Bt n t) (hn : n ≤ 700) : ∀ {xs : List D} {De : DEnds} {s4 : Slot}, Ts 700 xs → (∀ s4, De.nx [s0, .d .deck, .d t.D, s3, s4, s5, s6, s7]) → forD (dgName 4) w_CB2 ζ De xs [s0, .d .deck, .d t.D, s3, s4, s5, s6, s7]
  | [], De, s4, ts, h => h _
  | x :: xs, De, s4, ts, h => by
    obtain ⟨u, rfl, hu, bu⟩ := ts x List.mem_cons_self
    refine for_consG ?_
    exact ⟨rfl, e_pair g.ok hu (g.b.mono hn) bu (w_c_loop g hn (fun d m => ts d (List.mem_cons_of_mem _ m)) h)⟩
theorem w_m4 {n : Nat} {x : Ed} {o : Bool} (g : Bt n t) (hn : 2 ≤ n) (hn2 : n + 1 ≤ 700) (bx : Bk n x.1) (x0 : 0 ≤ x.2) (x4 : x.2 ≤ 4) (h : ∀ s4, U ζ De [s0, .d .deck, .d t.D, s3, s4, .d (eD x), s6, .d (.bl o)]) : dSeq (dFor (dBin gAddA (dCall 2 tf__law_choices (dCons (dVar 5) (dCons (dNot (dVar 7)) dNil))) (dCall 2 tf__law_choices (dCons (dVar 5) (dCons (dVar 7) dNil)))) (dgName 4) w_CB2) U ζ De [s0, .d .deck, .d t.D, s3, s4, .d (eD x), s6, .d (.bl o)] := by
  refine ⟨rfl, e_choices bx hn x0 x4 fun l ts hl => ⟨rfl, e_choices bx hn x0 x4 fun l' ts' hl' => ⟨sz (by omega), ?_⟩⟩⟩
  refine w_c_loop (De := { De with nx := U ζ De }) g (by omega) (fun d m => ?_) h
  rcases List.mem_append.mp m with m | m
  · obtain ⟨u, e, hu, bu⟩ := ts d m
    exact ⟨u, e, hu, bu.mono hn2⟩
  · obtain ⟨u, e, hu, bu⟩ := ts' d m
    exact ⟨u, e, hu, bu.mono hn2⟩
end
theorem math : T_law (fun _ _ => False) { nx := fun _ => False, rt := fun d => d = .bl true } (.un :: .d .deck :: List.replicate 6 .un) := by
  rw [show (.un :: .d .deck :: List.replicate 6 .un : SE) = [.un, .d .deck, .un, .un, .un, .un, .un, .un] from rfl]
  unfold T_law
  refine w_m0 fun t g => ?_
  refine y1 ⟨g.ok, g.b.mono (by decide)⟩ ?_
  refine w_m2 g fun t s3 s4 g => ?_
  refine w_m3 g (by decide) fun x m o bx x0 x4 => ?_
  refine w_m4 (n := 231) ⟨g.ok, g.b.mono (by decide)⟩ (by decide) (by decide) bx x0 x4 fun s4 => ?_
  exact rfl
end K92
set_option Elab.async false
set_option linter.all false
set_option maxRecDepth 100000
set_option maxHeartbeats 4000000
namespace K92
open PySem PySem.Spec L2 DL
open PyProof.Rows hiding St
def dd_is_plain_integer : He.DefD := ⟨("is_plain_integer", none), "is_plain_integer", "is_plain_integer", defArgs s_is_plain_integer, defBody s_is_plain_integer, defScope s_is_plain_integer, [], []⟩
def dd_is_direction : He.DefD := ⟨("is_direction", none), "is_direction", "is_direction", defArgs s_is_direction, defBody s_is_direction, defScope s_is_direction, [], []⟩
def dd_is_tuple_of : He.DefD := ⟨("is_tuple_of", none), "is_tuple_of", "is_tuple_of", defArgs s_is_tuple_of, defBody s_is_tuple_of, defScope s_is_tuple_of, [], []⟩
def dd_are_plain_integers : He.DefD := ⟨("are_plain_integers", none), "are_plain_integers", "are_plain_integers", defArgs s_are_plain_integers, defBody s_are_plain_integers, defScope s_are_plain_integers, [], []⟩
def dd_is_golden : He.DefD := ⟨("is_golden", none), "is_golden", "is_golden", defArgs s_is_golden, defBody s_is_golden, defScope s_is_golden, [], []⟩
def dd_need_golden : He.DefD := ⟨("need_golden", none), "need_golden", "need_golden", defArgs s_need_golden, defBody s_need_golden, defScope s_need_golden, [], []⟩
def dd__lowest : He.DefD := ⟨("_lowest", none), "_lowest", "_lowest", defArgs s__lowest, defBody s__lowest, defScope s__lowest, [], []⟩
def dd_reduced : He.DefD := ⟨("reduced", none), "reduced", "reduced", defArgs s_reduced, defBody s_reduced, defScope s_reduced, [], []⟩
def dd_minus : He.DefD := ⟨("minus", none), "minus", "minus", defArgs s_minus, defBody s_minus, defScope s_minus, [], []⟩
def dd_sign_of_parts : He.DefD := ⟨("sign_of_parts", none), "sign_of_parts", "sign_of_parts", defArgs s_sign_of_parts, defBody s_sign_of_parts, defScope s_sign_of_parts, [], []⟩
def dd_sign : He.DefD := ⟨("sign", none), "sign", "sign", defArgs s_sign, defBody s_sign, defScope s_sign, [], []⟩
def dd_with_part : He.DefD := ⟨("with_part", none), "with_part", "with_part", defArgs s_with_part, defBody s_with_part, defScope s_with_part, [], []⟩
def dd_stepped : He.DefD := ⟨("stepped", none), "stepped", "stepped", defArgs s_stepped, defBody s_stepped, defScope s_stepped, [], []⟩
def dd_is_row : He.DefD := ⟨("is_row", none), "is_row", "is_row", defArgs s_is_row, defBody s_is_row, defScope s_is_row, [], []⟩
def dd_is_corner_row : He.DefD := ⟨("is_corner_row", none), "is_corner_row", "is_corner_row", defArgs s_is_corner_row, defBody s_is_corner_row, defScope s_is_corner_row, [], []⟩
def dd__need_row : He.DefD := ⟨("_need_row", none), "_need_row", "_need_row", defArgs s__need_row, defBody s__need_row, defScope s__need_row, [], []⟩
def dd_point_of : He.DefD := ⟨("point_of", none), "point_of", "point_of", defArgs s_point_of, defBody s_point_of, defScope s_point_of, [], []⟩
def dd_is_tile_row : He.DefD := ⟨("is_tile_row", none), "is_tile_row", "is_tile_row", defArgs s_is_tile_row, defBody s_is_tile_row, defScope s_is_tile_row, [], []⟩
def dd_need_tile : He.DefD := ⟨("need_tile", none), "need_tile", "need_tile", defArgs s_need_tile, defBody s_need_tile, defScope s_need_tile, [], []⟩
def dd_edges_of : He.DefD := ⟨("edges_of", none), "edges_of", "edges_of", defArgs s_edges_of, defBody s_edges_of, defScope s_edges_of, [], []⟩
def dd_is_thick : He.DefD := ⟨("is_thick", none), "is_thick", "is_thick", defArgs s_is_thick, defBody s_is_thick, defScope s_is_thick, [], []⟩
def dd_is_low : He.DefD := ⟨("is_low", none), "is_low", "is_low", defArgs s_is_low, defBody s_is_low, defScope s_is_low, [], []⟩
def dd_marks_of : He.DefD := ⟨("marks_of", none), "marks_of", "marks_of", defArgs s_marks_of, defBody s_marks_of, defScope s_marks_of, [], []⟩
def dd__place_of_edge : He.DefD := ⟨("_place_of_edge", none), "_place_of_edge", "_place_of_edge", defArgs s__place_of_edge, defBody s__place_of_edge, defScope s__place_of_edge, [], []⟩
def dd__is_left_at : He.DefD := ⟨("_is_left_at", none), "_is_left_at", "_is_left_at", defArgs s__is_left_at, defBody s__is_left_at, defScope s__is_left_at, [], []⟩
def dd_does_fit : He.DefD := ⟨("does_fit", none), "does_fit", "does_fit", defArgs s_does_fit, defBody s_does_fit, defScope s_does_fit, [], []⟩
def dd__far_corner : He.DefD := ⟨("_far_corner", none), "_far_corner", "_far_corner", defArgs s__far_corner, defBody s__far_corner, defScope s__far_corner, [], []⟩
def dd__is_beside : He.DefD := ⟨("_is_beside", none), "_is_beside", "_is_beside", defArgs s__is_beside, defBody s__is_beside, defScope s__is_beside, [], []⟩
def dd_do_overlap : He.DefD := ⟨("do_overlap", none), "do_overlap", "do_overlap", defArgs s_do_overlap, defBody s_do_overlap, defScope s_do_overlap, [], []⟩
def dd__law_deck : He.DefD := ⟨("_law_deck", none), "_law_deck", "_law_deck", defArgs s__law_deck, defBody s__law_deck, defScope s__law_deck, [], []⟩
def dd__law_draw : He.DefD := ⟨("_law_draw", none), "_law_draw", "_law_draw", defArgs s__law_draw, defBody s__law_draw, defScope s__law_draw, [], []⟩
def dd__law_pick : He.DefD := ⟨("_law_pick", none), "_law_pick", "_law_pick", defArgs s__law_pick, defBody s__law_pick, defScope s__law_pick, [], []⟩
def dd__law_sign : He.DefD := ⟨("_law_sign", none), "_law_sign", "_law_sign", defArgs s__law_sign, defBody s__law_sign, defScope s__law_sign, [], []⟩
def dd__law_is_integer : He.DefD := ⟨("_law_is_integer", none), "_law_is_integer", "_law_is_integer", defArgs s__law_is_integer, defBody s__law_is_integer, defScope s__law_is_integer, [], []⟩
def dd__law_up : He.DefD := ⟨("_law_up", none), "_law_up", "_law_up", defArgs s__law_up, defBody s__law_up, defScope s__law_up, [.int (1)], []⟩
def dd__law_corners : He.DefD := ⟨("_law_corners", none), "_law_corners", "_law_corners", defArgs s__law_corners, defBody s__law_corners, defScope s__law_corners, [], []⟩
def dd__law_marked : He.DefD := ⟨("_law_marked", none), "_law_marked", "_law_marked", defArgs s__law_marked, defBody s__law_marked, defScope s__law_marked, [], []⟩
def dd__law_meeting : He.DefD := ⟨("_law_meeting", none), "_law_meeting", "_law_meeting", defArgs s__law_meeting, defBody s__law_meeting, defScope s__law_meeting, [], []⟩
def dd__law_choices : He.DefD := ⟨("_law_choices", none), "_law_choices", "_law_choices", defArgs s__law_choices, defBody s__law_choices, defScope s__law_choices, [], []⟩
def dd__law_do_overlap : He.DefD := ⟨("_law_do_overlap", none), "_law_do_overlap", "_law_do_overlap", defArgs s__law_do_overlap, defBody s__law_do_overlap, defScope s__law_do_overlap, [], []⟩
def dd__law_is_tile : He.DefD := ⟨("_law_is_tile", none), "_law_is_tile", "_law_is_tile", defArgs s__law_is_tile, defBody s__law_is_tile, defScope s__law_is_tile, [], []⟩
def dd__law_odd : He.DefD := ⟨("_law_odd", none), "_law_odd", "_law_odd", defArgs s__law_odd, defBody s__law_odd, defScope s__law_odd, [], []⟩
def dd__law_bent_tile : He.DefD := ⟨("_law_bent_tile", none), "_law_bent_tile", "_law_bent_tile", defArgs s__law_bent_tile, defBody s__law_bent_tile, defScope s__law_bent_tile, [], []⟩
def dd__law_great : He.DefD := ⟨("_law_great", none), "_law_great", "_law_great", defArgs s__law_great, defBody s__law_great, defScope s__law_great, [], []⟩
def dd__law_any_tile : He.DefD := ⟨("_law_any_tile", none), "_law_any_tile", "_law_any_tile", defArgs s__law_any_tile, defBody s__law_any_tile, defScope s__law_any_tile, [], []⟩
def dd__law_near : He.DefD := ⟨("_law_near", none), "_law_near", "_law_near", defArgs s__law_near, defBody s__law_near, defScope s__law_near, [], []⟩
def dd__law_bad : He.DefD := ⟨("_law_bad", none), "_law_bad", "_law_bad", defArgs s__law_bad, defBody s__law_bad, defScope s__law_bad, [], []⟩
def dd__law_is_parted : He.DefD := ⟨("_law_is_parted", none), "_law_is_parted", "_law_is_parted", defArgs s__law_is_parted, defBody s__law_is_parted, defScope s__law_is_parted, [], []⟩
def dd__law_is_pair_right : He.DefD := ⟨("_law_is_pair_right", none), "_law_is_pair_right", "_law_is_pair_right", defArgs s__law_is_pair_right, defBody s__law_is_pair_right, defScope s__law_is_pair_right, [], []⟩
def dd__law_is_refusal_right : He.DefD := ⟨("_law_is_refusal_right", none), "_law_is_refusal_right", "_law_is_refusal_right", defArgs s__law_is_refusal_right, defBody s__law_is_refusal_right, defScope s__law_is_refusal_right, [], []⟩
def dd_law : He.DefD := ⟨("law", none), "law", "law", defArgs s_law, defBody s_law, defScope s_law, [], []⟩
def di_BadNumber : He.DefD := ⟨("BadNumber", some "__init__"), "__init__", "BadNumber.__init__", defArgs i_BadNumber, defBody i_BadNumber, defScope i_BadNumber, [], []⟩
def di_BadRow : He.DefD := ⟨("BadRow", some "__init__"), "__init__", "BadRow.__init__", defArgs i_BadRow, defBody i_BadRow, defScope i_BadRow, [], []⟩
def di_BadTile : He.DefD := ⟨("BadTile", some "__init__"), "__init__", "BadTile.__init__", defArgs i_BadTile, defBody i_BadTile, defScope i_BadTile, [], []⟩
def fn : List He.DefD := [dd_is_plain_integer, dd_is_direction, dd_is_tuple_of, dd_are_plain_integers, dd_is_golden, dd_need_golden, dd__lowest, dd_reduced, dd_minus, dd_sign_of_parts, dd_sign, dd_with_part, dd_stepped, dd_is_row, dd_is_corner_row, dd__need_row, dd_point_of, dd_is_tile_row, dd_need_tile, dd_edges_of, dd_is_thick, dd_is_low, dd_marks_of, dd__place_of_edge, dd__is_left_at, dd_does_fit, dd__far_corner, dd__is_beside, dd_do_overlap, dd__law_deck, dd__law_draw, dd__law_pick, dd__law_sign, dd__law_is_integer, dd__law_up, dd__law_corners, dd__law_marked, dd__law_meeting, dd__law_choices, dd__law_do_overlap, dd__law_is_tile, dd__law_odd, dd__law_bent_tile, dd__law_great, dd__law_any_tile, dd__law_near, dd__law_bad, dd__law_is_parted, dd__law_is_pair_right, dd__law_is_refusal_right, dd_law, di_BadNumber, di_BadRow, di_BadTile]
def faL : List He.Fa := [.glo "is_plain_integer", .glo "is_direction", .glo "is_tuple_of", .glo "are_plain_integers", .glo "is_golden", .glo "need_golden", .glo "_lowest", .glo "reduced", .glo "minus", .glo "sign_of_parts", .glo "sign", .glo "with_part", .glo "stepped", .glo "is_row", .glo "is_corner_row", .glo "_need_row", .glo "point_of", .glo "is_tile_row", .glo "need_tile", .glo "edges_of", .glo "is_thick", .glo "is_low", .glo "marks_of", .glo "_place_of_edge", .glo "_is_left_at", .glo "does_fit", .glo "_far_corner", .glo "_is_beside", .glo "do_overlap", .glo "_law_deck", .glo "_law_draw", .glo "_law_pick", .glo "_law_sign", .glo "_law_is_integer", .glo "_law_up", .glo "_law_corners", .glo "_law_marked", .glo "_law_meeting", .glo "_law_choices", .glo "_law_do_overlap", .glo "_law_is_tile", .glo "_law_odd", .glo "_law_bent_tile", .glo "_law_great", .glo "_law_any_tile", .glo "_law_near", .glo "_law_bad", .glo "_law_is_parted", .glo "_law_is_pair_right", .glo "_law_is_refusal_right", .glo "law", .free "abs", .free "all", .free "bool", .free "enumerate", .free "int", .free "isinstance", .free "len", .free "list", .free "max", .free "min", .free "range", .free "repr", .free "sum", .free "tuple", .free "zip"]
def ex (K : PySem.W.Frag) : Bool := bltB K "gcd" "math.gcd" && gstrB K "DOWN" "down" && gstrB K "OUTER" "outer" && gstrB K "UP" "up" && mxB K && smB K && exfB K "BadNumber" "thing" && exisB K "BadNumber" && exfB K "BadRow" "thing" && exisB K "BadRow" && exfB K "BadTile" "thing" && exisB K "BadTile" && refB K "BadTile" && exmB K "BadNumber" "BadTile" false && exmB K "BadRow" "BadTile" false && exmB K "BadTile" "BadTile" true && tabNB K TN && tab1B K "_law_is_refusal_right"
abbrev R : PySem.W.OpenRow := PySem.W.OpenLaw.row PySem.Challenge.rw_nevertwice_k92_overlaps_of_any_two_tiles
abbrev hk : PySem.W.Hook := hookF 4 faL fn TN ex
def ob (s : PySem.W.SharedT) : He.AlD × Bool := obsF 4 faL fn TN ex (HandSHeadRun.getT s)
theorem ob_eq (s : PySem.W.SharedT) : ob s = hk.obs s.abs := obsF_eq (HandSHeadRun.getT_eq s)
def nms0 : List Str := ["gcd", "is_plain_integer", "is_direction", "is_tuple_of", "are_plain_integers", "FloorError", "BadNumber", "BadRow", "BadTile", "is_golden", "need_golden", "_lowest", "reduced", "minus", "sign_of_parts", "sign", "with_part", "stepped", "is_row", "is_corner_row", "_need_row", "point_of", "OUTER", "UP", "DOWN", "is_tile_row", "need_tile", "edges_of", "is_thick", "is_low"]
def nms1 : List Str := ["marks_of", "_place_of_edge", "_is_left_at", "does_fit", "_far_corner", "_is_beside", "do_overlap", "_law_deck", "_law_draw", "_law_pick", "_law_sign", "_law_is_integer", "_law_up", "_law_corners", "_law_marked", "_law_meeting", "_law_choices", "_law_do_overlap", "_law_is_tile", "_law_odd", "_law_bent_tile", "_law_great", "_law_any_tile", "_law_near", "_law_bad", "_law_is_parted", "_law_is_pair_right", "_law_is_refusal_right"]
def nms : List Str := nms0 ++ nms1
theorem run (w : World) : HandSHeadRun.RunEqI R (PySem.W.view R.prog [0, 66]) hk ob 5020 nms w := by
  unfold HandSHeadRun.RunEqI
  kernel_rfl
theorem facts {P : Program} {w : World} {K : PySem.W.Frag} {h : Heap} {mg : Str → Option Value} {f : Addr} (X : K.In h) (G : h.Ns mainGlobals mg) (hfa : mg ("law" : Str) = some (.ref f)) (c : He.SaysD faL fn K) (ce : ex K = true) :
    ∃ fd : FuncData, tabNB K TN = true ∧ (∀ (s : Shared) (v : Value), BindsTo s fd ⟨[v], []⟩ [("_law_script", v)]) ∧ ∀ base : Heap, K.In base → base.Ns mainGlobals mg → TBs K mg base TN → FnG P w K mg base CX0 11 f fd ["_law_script"] (spLaw K 6 T_law) := by
  obtain ⟨fd0, F0⟩ := c.def_ 0 (d := dd_is_plain_integer) rfl
  obtain ⟨fd1, F1⟩ := c.def_ 1 (d := dd_is_direction) rfl
  obtain ⟨fd2, F2⟩ := c.def_ 2 (d := dd_is_tuple_of) rfl
  obtain ⟨fd3, F3⟩ := c.def_ 3 (d := dd_are_plain_integers) rfl
  obtain ⟨fd4, F4⟩ := c.def_ 4 (d := dd_is_golden) rfl
  obtain ⟨fd5, F5⟩ := c.def_ 5 (d := dd_need_golden) rfl
  obtain ⟨fd6, F6⟩ := c.def_ 6 (d := dd__lowest) rfl
  obtain ⟨fd7, F7⟩ := c.def_ 7 (d := dd_reduced) rfl
  obtain ⟨fd8, F8⟩ := c.def_ 8 (d := dd_minus) rfl
  obtain ⟨fd9, F9⟩ := c.def_ 9 (d := dd_sign_of_parts) rfl
  obtain ⟨fd10, F10⟩ := c.def_ 10 (d := dd_sign) rfl
  obtain ⟨fd11, F11⟩ := c.def_ 11 (d := dd_with_part) rfl
  obtain ⟨fd12, F12⟩ := c.def_ 12 (d := dd_stepped) rfl
  obtain ⟨fd13, F13⟩ := c.def_ 13 (d := dd_is_row) rfl
  obtain ⟨fd14, F14⟩ := c.def_ 14 (d := dd_is_corner_row) rfl
  obtain ⟨fd15, F15⟩ := c.def_ 15 (d := dd__need_row) rfl
  obtain ⟨fd16, F16⟩ := c.def_ 16 (d := dd_point_of) rfl
  obtain ⟨fd17, F17⟩ := c.def_ 17 (d := dd_is_tile_row) rfl
  obtain ⟨fd18, F18⟩ := c.def_ 18 (d := dd_need_tile) rfl
  obtain ⟨fd19, F19⟩ := c.def_ 19 (d := dd_edges_of) rfl
  obtain ⟨fd20, F20⟩ := c.def_ 20 (d := dd_is_thick) rfl
  obtain ⟨fd21, F21⟩ := c.def_ 21 (d := dd_is_low) rfl
  obtain ⟨fd22, F22⟩ := c.def_ 22 (d := dd_marks_of) rfl
  obtain ⟨fd23, F23⟩ := c.def_ 23 (d := dd__place_of_edge) rfl
  obtain ⟨fd24, F24⟩ := c.def_ 24 (d := dd__is_left_at) rfl
  obtain ⟨fd25, F25⟩ := c.def_ 25 (d := dd_does_fit) rfl
  obtain ⟨fd26, F26⟩ := c.def_ 26 (d := dd__far_corner) rfl
  obtain ⟨fd27, F27⟩ := c.def_ 27 (d := dd__is_beside) rfl
  obtain ⟨fd28, F28⟩ := c.def_ 28 (d := dd_do_overlap) rfl
  obtain ⟨fd29, F29⟩ := c.def_ 29 (d := dd__law_deck) rfl
  obtain ⟨fd30, F30⟩ := c.def_ 30 (d := dd__law_draw) rfl
  obtain ⟨fd31, F31⟩ := c.def_ 31 (d := dd__law_pick) rfl
  obtain ⟨fd32, F32⟩ := c.def_ 32 (d := dd__law_sign) rfl
  obtain ⟨fd33, F33⟩ := c.def_ 33 (d := dd__law_is_integer) rfl
  obtain ⟨fd34, F34⟩ := c.def_ 34 (d := dd__law_up) rfl
  obtain ⟨fd35, F35⟩ := c.def_ 35 (d := dd__law_corners) rfl
  obtain ⟨fd36, F36⟩ := c.def_ 36 (d := dd__law_marked) rfl
  obtain ⟨fd37, F37⟩ := c.def_ 37 (d := dd__law_meeting) rfl
  obtain ⟨fd38, F38⟩ := c.def_ 38 (d := dd__law_choices) rfl
  obtain ⟨fd39, F39⟩ := c.def_ 39 (d := dd__law_do_overlap) rfl
  obtain ⟨fd40, F40⟩ := c.def_ 40 (d := dd__law_is_tile) rfl
  obtain ⟨fd41, F41⟩ := c.def_ 41 (d := dd__law_odd) rfl
  obtain ⟨fd42, F42⟩ := c.def_ 42 (d := dd__law_bent_tile) rfl
  obtain ⟨fd43, F43⟩ := c.def_ 43 (d := dd__law_great) rfl
  obtain ⟨fd44, F44⟩ := c.def_ 44 (d := dd__law_any_tile) rfl
  obtain ⟨fd45, F45⟩ := c.def_ 45 (d := dd__law_near) rfl
  obtain ⟨fd46, F46⟩ := c.def_ 46 (d := dd__law_bad) rfl
  obtain ⟨fd47, F47⟩ := c.def_ 47 (d := dd__law_is_parted) rfl
  obtain ⟨fd48, F48⟩ := c.def_ 48 (d := dd__law_is_pair_right) rfl
  obtain ⟨fd49, F49⟩ := c.def_ 49 (d := dd__law_is_refusal_right) rfl
  obtain ⟨fd50, F50⟩ := c.def_ 50 (d := dd_law) rfl
  obtain ⟨fi0, I0⟩ := c.def_ 51 (d := di_BadNumber) rfl
  obtain ⟨fi1, I1⟩ := c.def_ 52 (d := di_BadRow) rfl
  obtain ⟨fi2, I2⟩ := c.def_ 53 (d := di_BadTile) rfl
  simp only [ex, Bool.and_eq_true] at ce
  obtain ⟨⟨⟨⟨⟨⟨⟨⟨⟨⟨⟨⟨⟨⟨⟨⟨⟨ce0, ce1⟩, ce2⟩, ce3⟩, ce4⟩, ce5⟩, ce6⟩, ce7⟩, ce8⟩, ce9⟩, ce10⟩, ce11⟩, ce12⟩, ce13⟩, ce14⟩, ce15⟩, ce16⟩, ce17⟩ := ce
  obtain ⟨ax0, X0⟩ := exf_ok X G ce6
  obtain ⟨ax1, X1⟩ := exf_ok X G ce8
  obtain ⟨ax2, X2⟩ := exf_ok X G ce10
  obtain ⟨ar0, R0⟩ := ref_ok X G ce12
  let t : Tx K mg := ⟨_,
    fd0,
    F0,
    (He.glo_ok X G (c.fact 0 (f := .glo "is_plain_integer") rfl)),
    _,
    fd1,
    F1,
    (He.glo_ok X G (c.fact 1 (f := .glo "is_direction") rfl)),
    _,
    fd2,
    F2,
    (He.glo_ok X G (c.fact 2 (f := .glo "is_tuple_of") rfl)),
    _,
    fd3,
    F3,
    (He.glo_ok X G (c.fact 3 (f := .glo "are_plain_integers") rfl)),
    _,
    fd4,
    F4,
    (He.glo_ok X G (c.fact 4 (f := .glo "is_golden") rfl)),
    _,
    fd5,
    F5,
    (He.glo_ok X G (c.fact 5 (f := .glo "need_golden") rfl)),
    _,
    fd6,
    F6,
    (He.glo_ok X G (c.fact 6 (f := .glo "_lowest") rfl)),
    _,
    fd7,
    F7,
    (He.glo_ok X G (c.fact 7 (f := .glo "reduced") rfl)),
    _,
    fd8,
    F8,
    (He.glo_ok X G (c.fact 8 (f := .glo "minus") rfl)),
    _,
    fd9,
    F9,
    (He.glo_ok X G (c.fact 9 (f := .glo "sign_of_parts") rfl)),
    _,
    fd10,
    F10,
    (He.glo_ok X G (c.fact 10 (f := .glo "sign") rfl)),
    _,
    fd11,
    F11,
    (He.glo_ok X G (c.fact 11 (f := .glo "with_part") rfl)),
    _,
    fd12,
    F12,
    (He.glo_ok X G (c.fact 12 (f := .glo "stepped") rfl)),
    _,
    fd13,
    F13,
    (He.glo_ok X G (c.fact 13 (f := .glo "is_row") rfl)),
    _,
    fd14,
    F14,
    (He.glo_ok X G (c.fact 14 (f := .glo "is_corner_row") rfl)),
    _,
    fd15,
    F15,
    (He.glo_ok X G (c.fact 15 (f := .glo "_need_row") rfl)),
    _,
    fd16,
    F16,
    (He.glo_ok X G (c.fact 16 (f := .glo "point_of") rfl)),
    _,
    fd17,
    F17,
    (He.glo_ok X G (c.fact 17 (f := .glo "is_tile_row") rfl)),
    _,
    fd18,
    F18,
    (He.glo_ok X G (c.fact 18 (f := .glo "need_tile") rfl)),
    _,
    fd19,
    F19,
    (He.glo_ok X G (c.fact 19 (f := .glo "edges_of") rfl)),
    _,
    fd20,
    F20,
    (He.glo_ok X G (c.fact 20 (f := .glo "is_thick") rfl)),
    _,
    fd21,
    F21,
    (He.glo_ok X G (c.fact 21 (f := .glo "is_low") rfl)),
    _,
    fd22,
    F22,
    (He.glo_ok X G (c.fact 22 (f := .glo "marks_of") rfl)),
    _,
    fd23,
    F23,
    (He.glo_ok X G (c.fact 23 (f := .glo "_place_of_edge") rfl)),
    _,
    fd24,
    F24,
    (He.glo_ok X G (c.fact 24 (f := .glo "_is_left_at") rfl)),
    _,
    fd25,
    F25,
    (He.glo_ok X G (c.fact 25 (f := .glo "does_fit") rfl)),
    _,
    fd26,
    F26,
    (He.glo_ok X G (c.fact 26 (f := .glo "_far_corner") rfl)),
    _,
    fd27,
    F27,
    (He.glo_ok X G (c.fact 27 (f := .glo "_is_beside") rfl)),
    _,
    fd28,
    F28,
    (He.glo_ok X G (c.fact 28 (f := .glo "do_overlap") rfl)),
    _,
    fd29,
    F29,
    (He.glo_ok X G (c.fact 29 (f := .glo "_law_deck") rfl)),
    _,
    fd30,
    F30,
    (He.glo_ok X G (c.fact 30 (f := .glo "_law_draw") rfl)),
    _,
    fd31,
    F31,
    (He.glo_ok X G (c.fact 31 (f := .glo "_law_pick") rfl)),
    _,
    fd32,
    F32,
    (He.glo_ok X G (c.fact 32 (f := .glo "_law_sign") rfl)),
    _,
    fd33,
    F33,
    (He.glo_ok X G (c.fact 33 (f := .glo "_law_is_integer") rfl)),
    _,
    fd34,
    F34,
    (He.glo_ok X G (c.fact 34 (f := .glo "_law_up") rfl)),
    _,
    fd35,
    F35,
    (He.glo_ok X G (c.fact 35 (f := .glo "_law_corners") rfl)),
    _,
    fd36,
    F36,
    (He.glo_ok X G (c.fact 36 (f := .glo "_law_marked") rfl)),
    _,
    fd37,
    F37,
    (He.glo_ok X G (c.fact 37 (f := .glo "_law_meeting") rfl)),
    _,
    fd38,
    F38,
    (He.glo_ok X G (c.fact 38 (f := .glo "_law_choices") rfl)),
    _,
    fd39,
    F39,
    (He.glo_ok X G (c.fact 39 (f := .glo "_law_do_overlap") rfl)),
    _,
    fd40,
    F40,
    (He.glo_ok X G (c.fact 40 (f := .glo "_law_is_tile") rfl)),
    _,
    fd41,
    F41,
    (He.glo_ok X G (c.fact 41 (f := .glo "_law_odd") rfl)),
    _,
    fd42,
    F42,
    (He.glo_ok X G (c.fact 42 (f := .glo "_law_bent_tile") rfl)),
    _,
    fd43,
    F43,
    (He.glo_ok X G (c.fact 43 (f := .glo "_law_great") rfl)),
    _,
    fd44,
    F44,
    (He.glo_ok X G (c.fact 44 (f := .glo "_law_any_tile") rfl)),
    _,
    fd45,
    F45,
    (He.glo_ok X G (c.fact 45 (f := .glo "_law_near") rfl)),
    _,
    fd46,
    F46,
    (He.glo_ok X G (c.fact 46 (f := .glo "_law_bad") rfl)),
    _,
    fd47,
    F47,
    (He.glo_ok X G (c.fact 47 (f := .glo "_law_is_parted") rfl)),
    _,
    fd48,
    F48,
    (He.glo_ok X G (c.fact 48 (f := .glo "_law_is_pair_right") rfl)),
    _,
    fd49,
    F49,
    (He.glo_ok X G (c.fact 49 (f := .glo "_law_is_refusal_right") rfl)),
    _,
    fd50,
    F50,
    (He.glo_ok X G (c.fact 50 (f := .glo "law") rfl)),
    (He.free_ok X G (c.fact 51 (f := .free "abs") rfl)),
    (He.free_ok X G (c.fact 52 (f := .free "all") rfl)),
    (He.free_ok X G (c.fact 53 (f := .free "bool") rfl)),
    (He.free_ok X G (c.fact 54 (f := .free "enumerate") rfl)),
    (He.free_ok X G (c.fact 55 (f := .free "int") rfl)),
    (He.free_ok X G (c.fact 56 (f := .free "isinstance") rfl)),
    (He.free_ok X G (c.fact 57 (f := .free "len") rfl)),
    (He.free_ok X G (c.fact 58 (f := .free "list") rfl)),
    (He.free_ok X G (c.fact 59 (f := .free "max") rfl)),
    (He.free_ok X G (c.fact 60 (f := .free "min") rfl)),
    (He.free_ok X G (c.fact 61 (f := .free "range") rfl)),
    (He.free_ok X G (c.fact 62 (f := .free "repr") rfl)),
    (He.free_ok X G (c.fact 63 (f := .free "sum") rfl)),
    (He.free_ok X G (c.fact 64 (f := .free "tuple") rfl)),
    (He.free_ok X G (c.fact 65 (f := .free "zip") rfl)),
    (blt_ok X G ce0),
    (gstr_ok X G ce1),
    (gstr_ok X G ce2),
    (gstr_ok X G ce3),
    ce4,
    ce5,
    ax0,
    _,
    X0,
    fi0,
    I0,
    (exis_ok ce7),
    ax1,
    _,
    X1,
    fi1,
    I1,
    (exis_ok ce9),
    ax2,
    _,
    X2,
    fi2,
    I2,
    (exis_ok ce11),
    ar0,
    R0,
    (of_decide_eq_true ce13),
    (of_decide_eq_true ce14),
    (of_decide_eq_true ce15),
    (tab1_ok ce17),
    rfl⟩
  have e := hfa.symm.trans t.m_law
  cases e
  have b := FunD.bindsA (ps := ["_law_script"]) t.F_law fun _ _ _ _ _ _ us hl => match us, hl with | [_], _ => rfl
  exact ⟨t.d_law, ce16, fun s v => b s [v] rfl, fun base _ _ tb => ok_law t tb⟩
end K92
open PySem PySem.W PySem.Calls PyProof.Rows
set_option maxRecDepth 100000 in
set_option maxHeartbeats 0 in
theorem PySem.Challenge.cw_nevertwice_k92_overlaps_of_any_two_tiles_holds : PySem.Challenge.rw_nevertwice_k92_overlaps_of_any_two_tiles.Holds := by
  w_on; o_law
  refine HandSHeadRun.head_imp (r := OpenLaw.row PySem.Challenge.rw_nevertwice_k92_overlaps_of_any_two_tiles) (q := view (OpenLaw.row PySem.Challenge.rw_nevertwice_k92_overlaps_of_any_two_tiles).prog [0, 66]) (H := K92.hk) (ob := K92.ob) (M := 5020) (loose := K92.nms) (d := HandSHeadRun.topDef (OpenLaw.row PySem.Challenge.rw_nevertwice_k92_overlaps_of_any_two_tiles).prog 66) (kwd := []) K92.ob_eq
    K92.run (by kernel_rfl) (by kernel_rfl) (by kernel_rfl) (by rfl) (by first | assumption | decide +kernel) (by decide +kernel) ⟨rfl, rfl, rfl, rfl, rfl, by decide +kernel⟩ ?hw ?hc
  case hw => w_witness2
  case hc =>
    refine DL.walk_ofT (l := PySem.Challenge.rw_nevertwice_k92_overlaps_of_any_two_tiles) (n := 63) (k := 11) (x := "_law_script") rfl (by decide) (by kernel_rfl) ⟨⟨rfl, by decide, by decide⟩, rfl⟩ ?F
    intro w mg fa h Y G hmg0
    obtain ⟨K, KX, c⟩ := Y
    have hmg : mg ("law" : PySem.Str) = some (.ref fa) := by
      have e : (HandSHeadRun.topDef (OpenLaw.row PySem.Challenge.rw_nevertwice_k92_overlaps_of_any_two_tiles).prog 66).name = ("law" : PySem.Str) := by kernel_rfl
      rw [← e]
      exact hmg0
    obtain ⟨fd, htn, hb, hF⟩ := K92.facts (P := (PySem.Challenge.rw_nevertwice_k92_overlaps_of_any_two_tiles).prog) (w := w) KX G hmg c.d c.ex
    exact ⟨K, fd, K92.TN.map (fun n => He.cT K (n, none)), DL.spLaw K 6 K92.T_law, KX, DL.cs_ok KX c, hb, fun H a ns hl hT hS => ⟨a, ns, rfl, hS, hl, DL.tabs_start htn hT, K92.math, fun _ => rfl⟩, fun base kb nb tb => hF base kb nb (DL.tbs_of tb)⟩
