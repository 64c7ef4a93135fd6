import PyProof.Rows.All
import Wide.All
import OpenK.AllK
import Wide.FinOn
import Flt.RightSqrt
import HandS.Comp
import HandS.Defaults
import HandS.Ends
import HandS.ForMost
import HandS.Gcd
import HandS.Head0
import HandS.Head1
import HandS.Head2
import HandS.Head3
import HandS.HeadEnd
import HandS.HeadHook1
import HandS.HeadHook2
import HandS.IsInst
import HandS.More
import HandS.Style
import HandS.Text
import HandS.TupAny
import HandS.Wide
import PyProof.ReprRoads
import PyProof.StrOps2
import PySem.Challenge.RW_nevertwice_k07_signs_order_and_integers
set_option Elab.async false
set_option linter.all false
set_option maxRecDepth 100000
/-! Data in place of heaps: a reading over plain data, for programs whose values are data and whose one mutable thing is a deck. -/
namespace DL
open PySem PySem.Spec L2
open PyProof.Rows hiding St

/-- data -/
inductive D where
  | non
  | bl (b : Bool)
  | int (i : Int)
  | str (x : Str)
  | tup (ds : List D)
  | lst (ds : List D)
  | deck
  | ty (n : String)

/-- where the deck stands: its dict, its list -/
abbrev Zn := Option (Addr × Addr)
def InZ (Z : Zn) (p : Addr) : Prop := ∃ a l, Z = some (a, l) ∧ (p = a ∨ p = l)
def deckKvs (l : Addr) (m k : Int) : List (Key × V) := [(.inr ("left" : Str), .ref l), (.inr ("mixed" : Str), .int m), (.inr ("draws" : Str), .int k)]
def DeckAt (H : Hp) (a l : Addr) : Prop := ∃ (xs : List Int) (m k : Int), H a = some (.dK (deckKvs l m k)) ∧ H l = some (.lst (xs.map V.int)) ∧ xs.length ≤ 63
def DeckOk (Z : Zn) (H : Hp) : Prop := ∀ a l, Z = some (a, l) → DeckAt H a l
/-- what may happen to a heap: new things come, the deck changes as a deck -/
structure Ext (Z : Zn) (H H' : Hp) : Prop where
  keep : ∀ p o, ¬ InZ Z p → H p = some o → H' p = some o
  deck : DeckOk Z H → DeckOk Z H'
theorem Ext.refl {Z : Zn} {H : Hp} : Ext Z H H := ⟨fun _ _ _ h => h, fun h => h⟩
theorem Ext.trans {Z : Zn} {H H1 H2 : Hp} (a : Ext Z H H1) (b : Ext Z H1 H2) : Ext Z H H2 :=
  ⟨fun p o n h => b.keep p o n (a.keep p o n h), fun h => b.deck (a.deck h)⟩

abbrev NK : Hp := fun _ => none
mutual
/-- the value v is the data d; nothing of it stands where N says -/
def Rep (K : PySem.W.Frag) (Z : Zn) (N : Addr → Prop) (H : Hp) : D → V → Prop
  | .non, v => v = .non
  | .bl b, v => v = .bl b
  | .int i, v => v = .int i
  | .str x, v => v = .str x
  | .tup ds, v => ∃ a vs, v = .ref a ∧ ((¬ N a ∧ H a = some (.tup vs)) ∨ SqT K NK a vs) ∧ Reps K Z N H ds vs
  | .lst ds, v => ∃ a vs, v = .ref a ∧ ¬ N a ∧ H a = some (.lst vs) ∧ Reps K Z N H ds vs
  | .deck, v => ∃ a l, Z = some (a, l) ∧ v = .ref a
  | .ty n, v => v = .ty n
def Reps (K : PySem.W.Frag) (Z : Zn) (N : Addr → Prop) (H : Hp) : List D → List V → Prop
  | [], vs => vs = []
  | d :: ds, vs => ∃ v r, vs = v :: r ∧ Rep K Z N H d v ∧ Reps K Z N H ds r
end
section
variable {K : PySem.W.Frag} {Z : Zn} {N N' : Addr → Prop} {H H' : Hp}
mutual
theorem Rep.mono (hk : ∀ p o, ¬ N p → H p = some o → H' p = some o ∧ ¬ N' p) : ∀ (d : D) (v : V), Rep K Z N H d v → Rep K Z N' H' d v
  | .non, _, h => h
  | .bl _, _, h => h
  | .int _, _, h => h
  | .str _, _, h => h
  | .tup ds, v, h => by
    obtain ⟨a, vs, e, r, q⟩ := h
    refine ⟨a, vs, e, ?_, Reps.mono hk ds vs q⟩
    rcases r with ⟨n, r⟩ | r
    · obtain ⟨r', n'⟩ := hk _ _ n r
      exact .inl ⟨n', r'⟩
    · exact .inr r
  | .lst ds, v, h => by
    obtain ⟨a, vs, e, n, r, q⟩ := h
    obtain ⟨r', n'⟩ := hk _ _ n r
    exact ⟨a, vs, e, n', r', Reps.mono hk ds vs q⟩
  | .deck, _, h => h
  | .ty _, _, h => h
theorem Reps.mono (hk : ∀ p o, ¬ N p → H p = some o → H' p = some o ∧ ¬ N' p) : ∀ (ds : List D) (vs : List V), Reps K Z N H ds vs → Reps K Z N' H' ds vs
  | [], _, h => h
  | d :: ds, vs, h => by
    obtain ⟨v, r, e, h1, h2⟩ := h
    exact ⟨v, r, e, Rep.mono hk d v h1, Reps.mono hk ds r h2⟩
end
theorem Rep.ext {d : D} {v : V} (e : Ext Z H H') (hz : ∀ p, InZ Z p → N p) (h : Rep K Z N H d v) : Rep K Z N H' d v :=
  Rep.mono (fun p o n q => ⟨e.keep p o (fun z => n (hz p z)) q, n⟩) d v h
theorem Reps.ext {ds : List D} {vs : List V} (e : Ext Z H H') (hz : ∀ p, InZ Z p → N p) (h : Reps K Z N H ds vs) : Reps K Z N H' ds vs :=
  Reps.mono (fun p o n q => ⟨e.keep p o (fun z => n (hz p z)) q, n⟩) ds vs h
theorem Rep.less {d : D} {v : V} (hn : ∀ p, N' p → N p) (h : Rep K Z N H d v) : Rep K Z N' H d v :=
  Rep.mono (fun p o n q => ⟨q, fun z => n (hn p z)⟩) d v h
theorem Reps.less {ds : List D} {vs : List V} (hn : ∀ p, N' p → N p) (h : Reps K Z N H ds vs) : Reps K Z N' H ds vs :=
  Reps.mono (fun p o n q => ⟨q, fun z => n (hn p z)⟩) ds vs h
theorem Reps.length : ∀ {ds : List D} {vs : List V}, Reps K Z N H ds vs → ds.length = vs.length
  | [], _, h => by cases h; rfl
  | d :: ds, _, ⟨v, r, e, _, q⟩ => by subst e; simp [Reps.length q]
theorem Reps.get : ∀ {ds : List D} {vs : List V} {i : Nat} {d : D}, Reps K Z N H ds vs → ds[i]? = some d → ∃ v, vs[i]? = some v ∧ Rep K Z N H d v
  | [], _, _, _, _, e => by simp at e
  | x :: ds, _, 0, d, ⟨v, r, e, h, _⟩, g => by subst e; simp at g; subst g; exact ⟨v, rfl, h⟩
  | x :: ds, _, i + 1, d, ⟨v, r, e, _, q⟩, g => by
    subst e
    obtain ⟨w, h1, h2⟩ := Reps.get (i := i) q (by simpa using g)
    exact ⟨w, by simpa using h1, h2⟩
theorem Reps.getV : ∀ {ds : List D} {vs : List V} {i : Nat} {v : V}, Reps K Z N H ds vs → vs[i]? = some v → ∃ d, ds[i]? = some d ∧ Rep K Z N H d v
  | [], _, _, _, h, e => by cases h; simp at e
  | x :: ds, _, 0, v, ⟨w, r, e, h, _⟩, g => by subst e; simp at g; subst g; exact ⟨x, rfl, h⟩
  | x :: ds, _, i + 1, v, ⟨w, r, e, _, q⟩, g => by
    subst e
    obtain ⟨d, h1, h2⟩ := Reps.getV (i := i) q (by simpa using g)
    exact ⟨d, by simpa using h1, h2⟩
theorem Reps.append : ∀ {ds es : List D} {vs ws : List V}, Reps K Z N H ds vs → Reps K Z N H es ws → Reps K Z N H (ds ++ es) (vs ++ ws)
  | [], _, _, _, h, q => by cases h; exact q
  | d :: ds, _, _, _, ⟨v, r, e, h1, h2⟩, q => by subst e; exact ⟨v, _, rfl, h1, Reps.append h2 q⟩
theorem Reps.snoc {ds : List D} {d : D} {vs : List V} {v : V} (h : Reps K Z N H ds vs) (q : Rep K Z N H d v) : Reps K Z N H (ds ++ [d]) (vs ++ [v]) :=
  h.append ⟨v, [], rfl, q, rfl⟩
theorem Reps.take : ∀ {ds : List D} {vs : List V} (n : Nat), Reps K Z N H ds vs → Reps K Z N H (ds.take n) (vs.take n)
  | _, _, 0, _ => by simp [Reps]
  | [], _, n + 1, h => by cases h; simp [Reps]
  | d :: ds, _, n + 1, ⟨v, r, e, h1, h2⟩ => by subst e; exact ⟨v, _, rfl, h1, Reps.take n h2⟩
theorem Reps.drop : ∀ {ds : List D} {vs : List V} (n : Nat), Reps K Z N H ds vs → Reps K Z N H (ds.drop n) (vs.drop n)
  | _, _, 0, h => h
  | [], _, n + 1, h => by cases h; simp [Reps]
  | d :: ds, _, n + 1, ⟨v, r, e, h1, h2⟩ => by subst e; exact Reps.drop n h2
theorem Reps.ints : ∀ {ns : List Int} {vs : List V}, Reps K Z N H (ns.map D.int) vs → vs = ns.map V.int
  | [], _, h => h
  | n :: ns, _, ⟨v, r, e, h1, h2⟩ => by subst e; rw [show v = V.int n from h1, Reps.ints h2]; rfl
theorem Reps.bls : ∀ {ns : List Bool} {vs : List V}, Reps K Z N H (ns.map D.bl) vs → vs = ns.map V.bl
  | [], _, h => h
  | n :: ns, _, ⟨v, r, e, h1, h2⟩ => by subst e; rw [show v = V.bl n from h1, Reps.bls h2]; rfl
end

/-! ### the state of a def's body -/
/-- an exception as data: its class, what it bears -/
structure DX where
  cls : Addr
  fs : List (Str × D)
structure FP where
  K : PySem.W.Frag
  Z : Zn
  B : Addr → Prop
  H0 : Hp
  ex : DX → Prop
/-- a slot: unassigned, data, a list of the def's own that it may change -/
inductive Slot where
  | un
  | d (x : D)
  | own (xs : List D)
abbrev SE := List Slot
def SlotOk (F : FP) (N : Addr → Prop) (H : Hp) (o : Option (Option V)) : Slot → Prop
  | .un => True
  | .d x => ∃ v, o = some (some v) ∧ Rep F.K F.Z N H x v
  | .own xs => ∃ p vs, o = some (some (.ref p)) ∧ N p ∧ ¬ F.B p ∧ H p = some (.lst vs) ∧ Reps F.K F.Z N H xs vs
structure NOk (F : FP) (N : Addr → Prop) (H : Hp) : Prop where
  deck : DeckOk F.Z H
  ext : Ext F.Z F.H0 H
  sub : ∀ p, F.B p → N p
  zin : ∀ p, InZ F.Z p → F.B p
  all : ∀ p, N p → ∃ o, H p = some o
  new : ∀ p, N p → ¬ F.B p → F.H0 p = none
structure FOk (F : FP) (N : Addr → Prop) (σ : St) (H : Hp) (env : SE) : Prop where
  n : NOk F N H
  len : σ.length = env.length
  slot : ∀ (i : Nat) s, env[i]? = some s → SlotOk F N H σ[i]? s
  apart : ∀ (i j : Nat) p xs ys, i ≠ j → env[i]? = some (.own xs) → env[j]? = some (.own ys) → σ[i]? = some (some (.ref p)) → σ[j]? = some (some (.ref p)) → False
section
variable {F : FP} {N : Addr → Prop} {σ : St} {H H' : Hp} {env : SE}
theorem NOk.z (n : NOk F N H) (p : Addr) (h : InZ F.Z p) : N p := n.sub p (n.zin p h)
theorem NOk.ext' (n : NOk F N H) (e : Ext F.Z H H') : NOk F N H' where
  deck := e.deck n.deck
  ext := n.ext.trans e
  sub := n.sub
  zin := n.zin
  all := fun p h => by
    by_cases z : InZ F.Z p
    · obtain ⟨a, l, e1, e2⟩ := z
      obtain ⟨xs, m, k, h1, h2, _⟩ := e.deck n.deck a l e1
      rcases e2 with e2 | e2
      · rw [e2]; exact ⟨_, h1⟩
      · rw [e2]; exact ⟨_, h2⟩
    · obtain ⟨o, q⟩ := n.all p h
      exact ⟨o, e.keep p o z q⟩
  new := n.new
theorem SlotOk.ext (n : NOk F N H) (e : Ext F.Z H H') {o : Option (Option V)} : ∀ {s : Slot}, SlotOk F N H o s → SlotOk F N H' o s
  | .un, _ => trivial
  | .d x, ⟨v, h1, h2⟩ => ⟨v, h1, h2.ext e n.z⟩
  | .own xs, ⟨p, vs, h1, h2, h3, h4, h5⟩ => ⟨p, vs, h1, h2, h3, e.keep p _ (fun z => h3 (n.zin p z)) h4, h5.ext e n.z⟩
theorem FOk.ext' (f : FOk F N σ H env) (e : Ext F.Z H H') : FOk F N σ H' env :=
  ⟨f.n.ext' e, f.len, fun i s q => (f.slot i s q).ext f.n e, f.apart⟩
/-- a new thing -/
theorem NOk.fresh (n : NOk F N H) {p : Addr} (h : H p = none) : ¬ N p := fun q => by
  obtain ⟨o, e⟩ := n.all p q
  rw [h] at e; cases e
theorem NOk.lay (n : NOk F N H) {p : Addr} {o : HO} (h : H p = none) : Ext F.Z H (upd H p o) := by
  have hz : ¬ InZ F.Z p := fun z => n.fresh h (n.z p z)
  have k : ∀ q u, H q = some u → upd H p o q = some u := fun q u e => by rw [upd_ne (ne_of_none e h)]; exact e
  refine ⟨fun q u _ e => k q u e, fun dk a l e => ?_⟩
  obtain ⟨xs, m, c, h1, h2, h3⟩ := dk a l e
  exact ⟨xs, m, c, k _ _ h1, k _ _ h2, h3⟩
end

/-! ### readings over data -/
abbrev XW := DX → Prop
abbrev TDE := XW → SE → (D → Prop) → Prop
abbrev TDT := XW → SE → (Bool → Prop) → Prop
abbrev TDA := XW → SE → (List D → Prop) → Prop
structure DEnds where
  nx : SE → Prop
  rt : D → Prop
  bk : SE → Prop := fun _ => False
  ct : SE → Prop := fun _ => False
abbrev TDS := XW → DEnds → SE → Prop
def tD (F : FP) (T : TDE) : TE := fun σ H Q => ∃ N env Qd, FOk F N σ H env ∧ T F.ex env Qd ∧ ∀ v H' d, Ext F.Z H H' → Rep F.K F.Z N H' d v → Qd d → Q v H'
def tDT (F : FP) (T : TDT) : TT := fun σ H Q => ∃ N env Qd, FOk F N σ H env ∧ T F.ex env Qd ∧ ∀ b H', Ext F.Z H H' → Qd b → Q b H'
def tDA (F : FP) (T : TDA) : TA := fun σ H Q => ∃ N env Qd, FOk F N σ H env ∧ T F.ex env Qd ∧ ∀ vs H' ds, Ext F.Z H H' → Reps F.K F.Z N H' ds vs → Qd ds → Q vs H'
/-- what was frozen is so still -/
def Evo (N : Addr → Prop) (H : Hp) (N' : Addr → Prop) (H' : Hp) : Prop := ∀ p o, ¬ N p → H p = some o → H' p = some o ∧ ¬ N' p
theorem Evo.refl {N : Addr → Prop} {H : Hp} : Evo N H N H := fun _ _ n h => ⟨h, n⟩
theorem Evo.trans {N N1 N2 : Addr → Prop} {H H1 H2 : Hp} (a : Evo N H N1 H1) (b : Evo N1 H1 N2 H2) : Evo N H N2 H2 := fun p o n h =>
  let ⟨h1, n1⟩ := a p o n h
  b p o n1 h1
theorem Evo.of {F : FP} {N : Addr → Prop} {H H' : Hp} (n : NOk F N H) (e : Ext F.Z H H') : Evo N H N H' := fun p o np h => ⟨e.keep p o (fun z => np (n.z p z)) h, np⟩
/-- what a body's ends mean below -/
structure EndsOk (F : FP) (N0 : Addr → Prop) (H0 : Hp) (Dd : DEnds) (De : Ends) : Prop where
  nx : ∀ N σ H env, FOk F N σ H env → Evo N0 H0 N H → Dd.nx env → De.nx σ H
  rt : ∀ v H d, Ext F.Z F.H0 H → Rep F.K F.Z F.B H d v → Dd.rt d → De.rt v H
  bk : ∀ N σ H env, FOk F N σ H env → Evo N0 H0 N H → Dd.bk env → De.bk σ H
  ct : ∀ N σ H env, FOk F N σ H env → Evo N0 H0 N H → Dd.ct env → De.ct σ H
def sD (F : FP) (T : TDS) : TS := fun De σ H => ∃ N env Dd, FOk F N σ H env ∧ T F.ex Dd env ∧ EndsOk F N H Dd De

section
variable {X : Cx} {e : Expr} {es : List Expr} {st : Stmt} {sts : List Stmt}
theorem PE.imp {t t' : TE} (h : PE X e t) (hi : ∀ σ H Q, t' σ H Q → t σ H Q) : PE X e t' := ⟨fun pins s σ H Q I hw => h.run pins s σ H Q I (hi _ _ _ hw)⟩
theorem PT.imp {t t' : TT} (h : PT X e t) (hi : ∀ σ H Q, t' σ H Q → t σ H Q) : PT X e t' := ⟨fun pins s σ H Q I hw => h.run pins s σ H Q I (hi _ _ _ hw)⟩
theorem PW.imp {t t' : TT} (h : PW X e t) (hi : ∀ σ H Q, t' σ H Q → t σ H Q) : PW X e t' := ⟨fun wh pins s σ H Q I hw => h.run wh pins s σ H Q I (hi _ _ _ hw)⟩
theorem PA.imp {t t' : TA} (h : PA X es t) (hi : ∀ σ H Q, t' σ H Q → t σ H Q) : PA X es t' := ⟨fun pos pins s σ H Q I hw => h.run pos pins s σ H Q I (hi _ _ _ hw)⟩
theorem PS.imp {t t' : TS} (h : PS X st t) (hi : ∀ De σ H, t' De σ H → t De σ H) : PS X st t' := ⟨fun pins s σ H De I hw => h.run pins s σ H De I (hi _ _ _ hw)⟩
theorem PSs.imp {t t' : TS} (h : PSs X sts t) (hi : ∀ De σ H, t' De σ H → t De σ H) : PSs X sts t' := ⟨fun pins s σ H De I hw => h.run pins s σ H De I (hi _ _ _ hw)⟩
end
end DL
set_option Elab.async false
set_option linter.all false
set_option maxRecDepth 100000
namespace DL
open PySem PySem.Spec L2
open PyProof.Rows hiding St

section
variable {K : PySem.W.Frag} {Z : Zn} {N : Addr → Prop} {H : Hp}
theorem rep_int {i : Int} : Rep K Z N H (.int i) (.int i) := rfl
theorem rep_bl {i : Bool} : Rep K Z N H (.bl i) (.bl i) := rfl
theorem rep_str {i : Str} : Rep K Z N H (.str i) (.str i) := rfl
theorem rep_non : Rep K Z N H .non .non := rfl
end
section
variable {X : Cx} {F : FP} {e a b c : Expr} {es : List Expr} {pos : Pos} {Ta Tb Tc : TDE} {Tas : TDA}

/-! ### names, constants -/
def dVar (i : Nat) : TDE := fun _ env Q => match env[i]? with
  | some (.d x) => Q x
  | _ => False
theorem d_var {i : Nat} (h : PE X e (tVar i)) : PE X e (tD F (dVar i)) := PE.imp h (by
  rintro σ H Q ⟨N, env, Qd, f, hT, k⟩
  unfold dVar at hT
  split at hT
  · rename_i x hx
    obtain ⟨v, e1, r⟩ := f.slot i _ hx
    exact ⟨v, e1, k v H x Ext.refl r hT⟩
  · exact hT.elim)
def dC (d : D) : TDE := fun _ _ Q => Q d
theorem d_const {v : V} {d : D} (h : PE X e (tC v)) (hr : ∀ N H, Rep F.K F.Z N H d v) : PE X e (tD F (dC d)) := PE.imp h (by
  rintro σ H Q ⟨N, env, Qd, f, hT, k⟩
  exact k v H d Ext.refl (hr N H) hT)
theorem d_int {i : Int} {j} : PE X (.Constant (.int i) j pos) (tD F (dC (.int i))) := d_const pe_int fun _ _ => rfl
theorem d_bl {i : Bool} {j} : PE X (.Constant (.bool i) j pos) (tD F (dC (.bl i))) := d_const pe_bl fun _ _ => rfl
theorem d_non {j} : PE X (.Constant .none j pos) (tD F (dC .non)) := d_const pe_non fun _ _ => rfl
theorem d_str {i : Str} {j} : PE X (.Constant (.str i) j pos) (tD F (dC (.str i))) := d_const pe_str fun _ _ => rfl

/-! ### operators -/
abbrev G2 := D → D → (D → Prop) → Prop
structure OpD (F : FP) (r : R2) (g : G2) : Prop where
  ok : ∀ N H x y dx dy Qd (Q : VK), NOk F N H → Rep F.K F.Z N H dx x → Rep F.K F.Z N H dy y → g dx dy Qd → (∀ v H' d, Ext F.Z H H' → Rep F.K F.Z N H' d v → Qd d → Q v H') → r x y H Q
def dBin (g : G2) (Ta Tb : TDE) : TDE := fun ξ env Q => Ta ξ env fun x => Tb ξ env fun y => g x y Q
theorem tOp_imp {r : R2} {g : G2} (hg : OpD F r g) : ∀ σ H Q, tD F (dBin g Ta Tb) σ H Q → tOp r (tD F Ta) (tD F Tb) σ H Q := by
  rintro σ H Q ⟨N, env, Qd, f, hT, k⟩
  refine ⟨N, env, _, f, hT, fun x H1 dx e1 rx q1 => ?_⟩
  refine ⟨N, env, _, f.ext' e1, q1, fun y H2 dy e2 ry q2 => ?_⟩
  exact hg.ok N H2 x y dx dy _ _ ((f.ext' e1).ext' e2).n (rx.ext e2 f.n.z) ry q2 fun v H3 d e3 r3 q3 => k v H3 d ((e1.trans e2).trans e3) r3 q3
theorem d_op {op : Operator} {r : R2} {g : G2} (ho : OpR X (binaryOp op) r) (hg : OpD F r g) (ha : PE X a (tD F Ta)) (hb : PE X b (tD F Tb)) : PE X (.BinOp a op b pos) (tD F (dBin g Ta Tb)) :=
  PE.imp (pe_op ho ha hb) (tOp_imp hg)
theorem d_cmp {op : CmpOp} {r : R2} {g : G2} (ho : OpR X (compareOp op) r) (hg : OpD F r g) (ha : PE X a (tD F Ta)) (hb : PE X b (tD F Tb)) (hm : behindInMarks op b = false) : PE X (.Compare a [op] [b] pos) (tD F (dBin g Ta Tb)) :=
  PE.imp (pe_cmpR ho ha hb hm) (tOp_imp hg)
/-- an expression that tells True or False, as a test -/
def dTest (T : TDE) : TDT := fun ξ env Q => T ξ env fun d => match d with
  | .bl b => Q b
  | _ => False
theorem bl_of {d : D} {Q : Bool → Prop} (h : match d with | .bl b => Q b | _ => False) : ∃ b, d = .bl b ∧ Q b := by
  cases d <;> first | exact ⟨_, rfl, h⟩ | exact h.elim
theorem tTest_imp {T : TDE} {t : TE} (hi : ∀ σ H Q, tD F T σ H Q → t σ H Q) : ∀ σ H Q, tDT F (dTest T) σ H Q → t σ H fun x H' => ∃ k, x = .bl k ∧ Q k H' := by
  rintro σ H Q ⟨N, env, Qd, f, hT, k⟩
  refine hi σ H _ ⟨N, env, _, f, hT, fun v H' d e r q => ?_⟩
  obtain ⟨b, rfl, q⟩ := bl_of q
  exact ⟨b, r, k b H' e q⟩
theorem dt_cmp {op : CmpOp} {r : R2} {g : G2} (ho : OpR X (compareOp op) r) (hg : OpD F r g) (ha : PE X a (tD F Ta)) (hb : PE X b (tD F Tb)) (hm : behindInMarks op b = false) : PT X (.Compare a [op] [b] pos) (tDT F (dTest (dBin g Ta Tb))) :=
  PT.imp (pt_cmpR ho ha hb hm) (tTest_imp (tOp_imp hg))
theorem dt_val (h : PE X e (tD F Ta)) (he : ∀ whole, isTrue e X.env whole = (do let v ← whole; standAt e.pos; holding [v] (truthy v)) := by intro _; rfl) : PT X e (tDT F (dTest Ta)) :=
  PT.imp (pt_val h he) (tTest_imp fun _ _ _ h => h)
/-- an int, a tuple, .. as a test -/
def truD : D → Option Bool
  | .non => some false
  | .bl b => some b
  | .int i => some (i != 0)
  | .tup ds => some (!ds.isEmpty)
  | .lst ds => some (!ds.isEmpty)
  | _ => none
def dTruth (T : TDE) : TDT := fun ξ env Q => T ξ env fun d => match truD d with
  | some b => Q b
  | none => False

/-! ### and, or, not; if -/
def dtAnd (t u : TDT) : TDT := fun ξ env Q => t ξ env fun c => if c = true then u ξ env Q else Q false
def dtOr (t u : TDT) : TDT := fun ξ env Q => t ξ env fun c => if c = true then Q true else u ξ env Q
def dtNot (t : TDT) : TDT := fun ξ env Q => t ξ env fun c => Q (!c)
variable {tA tB' : TDT} {rest : List Expr}
theorem dw_and1 (ha : PT X a (tDT F tA)) : PW X (.BoolOp .And [a] pos) (tDT F tA) := pw_and1 ha
theorem dw_or1 (ha : PT X a (tDT F tA)) : PW X (.BoolOp .Or [a] pos) (tDT F tA) := pw_or1 ha
theorem dw_and (ha : PT X a (tDT F tA)) (hb : PW X (.BoolOp .And (b :: rest) pos) (tDT F tB')) : PW X (.BoolOp .And (a :: b :: rest) pos) (tDT F (dtAnd tA tB')) := PW.imp (pw_and ha hb) (by
  rintro σ H Q ⟨N, env, Qd, f, hT, k⟩
  refine ⟨N, env, _, f, hT, fun c H1 e1 q1 => ?_⟩
  by_cases hc : c = true
  · rw [if_pos hc] at q1 ⊢
    exact ⟨N, env, _, f.ext' e1, q1, fun b H2 e2 q2 => k b H2 (e1.trans e2) q2⟩
  · rw [if_neg hc] at q1 ⊢
    exact k _ _ e1 q1)
theorem dw_or (ha : PT X a (tDT F tA)) (hb : PW X (.BoolOp .Or (b :: rest) pos) (tDT F tB')) : PW X (.BoolOp .Or (a :: b :: rest) pos) (tDT F (dtOr tA tB')) := PW.imp (pw_or ha hb) (by
  rintro σ H Q ⟨N, env, Qd, f, hT, k⟩
  refine ⟨N, env, _, f, hT, fun c H1 e1 q1 => ?_⟩
  by_cases hc : c = true
  · rw [if_pos hc] at q1 ⊢
    exact k _ _ e1 q1
  · rw [if_neg hc] at q1 ⊢
    exact ⟨N, env, _, f.ext' e1, q1, fun b H2 e2 q2 => k b H2 (e1.trans e2) q2⟩)
theorem dt_not (ha : PT X a (tDT F tA)) : PT X (.UnaryOp .Not a pos) (tDT F (dtNot tA)) := PT.imp (pt_not ha) (by
  rintro σ H Q ⟨N, env, Qd, f, hT, k⟩
  exact ⟨N, env, _, f, hT, fun c H1 e1 q1 => k _ H1 e1 q1⟩)
def dAnd (Ta Tb : TDE) : TDE := fun ξ env Q => dTest Ta ξ env fun c => if c = true then Tb ξ env Q else Q (.bl false)
def dOr (Ta Tb : TDE) : TDE := fun ξ env Q => dTest Ta ξ env fun c => if c = true then Q (.bl true) else Tb ξ env Q
def dNot (Ta : TDE) : TDE := fun ξ env Q => dTest Ta ξ env fun c => Q (.bl (!c))
theorem d_one {op} (h : PE X a (tD F Ta)) : PE X (.BoolOp op [a] pos) (tD F Ta) := pe_one h
theorem d_and (ha : PE X a (tD F Ta)) (hb : PE X (.BoolOp .And (b :: rest) pos) (tD F Tb)) : PE X (.BoolOp .And (a :: b :: rest) pos) (tD F (dAnd Ta Tb)) := PE.imp (pe_and ha hb) (by
  rintro σ H Q ⟨N, env, Qd, f, hT, k⟩
  refine ⟨N, env, _, f, hT, fun x H1 dx e1 r1 q1 => ?_⟩
  obtain ⟨c, rfl, q9⟩ := bl_of q1
  refine ⟨c, r1, ?_⟩
  by_cases hc : c = true
  · rw [if_pos hc] at q9 ⊢
    exact ⟨N, env, _, f.ext' e1, q9, fun v H2 d e2 r2 q2 => k v H2 d (e1.trans e2) r2 q2⟩
  · rw [if_neg hc] at q9 ⊢
    exact k _ _ _ e1 rep_bl q9)
theorem d_or (ha : PE X a (tD F Ta)) (hb : PE X (.BoolOp .Or (b :: rest) pos) (tD F Tb)) : PE X (.BoolOp .Or (a :: b :: rest) pos) (tD F (dOr Ta Tb)) := PE.imp (pe_or ha hb) (by
  rintro σ H Q ⟨N, env, Qd, f, hT, k⟩
  refine ⟨N, env, _, f, hT, fun x H1 dx e1 r1 q1 => ?_⟩
  obtain ⟨c, rfl, q9⟩ := bl_of q1
  refine ⟨c, r1, ?_⟩
  by_cases hc : c = true
  · rw [if_pos hc] at q9 ⊢
    exact k _ _ _ e1 rep_bl q9
  · rw [if_neg hc] at q9 ⊢
    exact ⟨N, env, _, f.ext' e1, q9, fun v H2 d e2 r2 q2 => k v H2 d (e1.trans e2) r2 q2⟩)
theorem d_not (ha : PE X a (tD F Ta)) : PE X (.UnaryOp .Not a pos) (tD F (dNot Ta)) := PE.imp (pe_not ha) (by
  rintro σ H Q ⟨N, env, Qd, f, hT, k⟩
  refine ⟨N, env, _, f, hT, fun x H1 dx e1 r1 q1 => ?_⟩
  obtain ⟨c, rfl, q9⟩ := bl_of q1
  exact ⟨c, r1, k _ _ _ e1 rep_bl q9⟩)
def dIf (t : TDT) (Ta Tb : TDE) : TDE := fun ξ env Q => t ξ env fun c => if c = true then Ta ξ env Q else Tb ξ env Q
theorem d_if (hc : PT X c (tDT F tA)) (ha : PE X a (tD F Ta)) (hb : PE X b (tD F Tb)) : PE X (.IfExp c a b pos) (tD F (dIf tA Ta Tb)) := PE.imp (pe_ifExp hc ha hb) (by
  rintro σ H Q ⟨N, env, Qd, f, hT, k⟩
  refine ⟨N, env, _, f, hT, fun c H1 e1 q1 => ?_⟩
  by_cases hc : c = true
  · rw [if_pos hc] at q1 ⊢
    exact ⟨N, env, _, f.ext' e1, q1, fun v H2 d e2 r2 q2 => k v H2 d (e1.trans e2) r2 q2⟩
  · rw [if_neg hc] at q1 ⊢
    exact ⟨N, env, _, f.ext' e1, q1, fun v H2 d e2 r2 q2 => k v H2 d (e1.trans e2) r2 q2⟩)

/-! ### unary -/
abbrev G1 := D → (D → Prop) → Prop
def dUn (g : G1) (Ta : TDE) : TDE := fun ξ env Q => Ta ξ env fun x => g x Q
def gNeg : G1 := fun x Q => match x with
  | .int i => Q (.int (-i))
  | _ => False
theorem d_neg (ha : PE X a (tD F Ta)) : PE X (.UnaryOp .USub a pos) (tD F (dUn gNeg Ta)) := PE.imp (pe_un un_neg ha) (by
  rintro σ H Q ⟨N, env, Qd, f, hT, k⟩
  refine ⟨N, env, _, f, hT, fun x H1 dx e1 r1 q1 => ?_⟩
  cases dx <;> first | exact q1.elim | exact ⟨_, r1, k _ _ _ e1 rep_int q1⟩)

/-! ### the operators of ints -/
def gI (C : Int → Int → Prop) (g : Int → Int → D) : G2 := fun x y Q => match x, y with
  | .int i, .int j => C i j ∧ Q (g i j)
  | _, _ => False
def gI0 (g : Int → Int → D) : G2 := fun x y Q => match x, y with
  | .int i, .int j => Q (g i j)
  | _, _ => False
theorem gI_of {C : Int → Int → Prop} {g : Int → Int → D} {x y : D} {Q : D → Prop} (h : gI C g x y Q) : ∃ i j, x = .int i ∧ y = .int j ∧ C i j ∧ Q (g i j) := by
  unfold gI at h
  split at h
  · exact ⟨_, _, rfl, rfl, h⟩
  · exact h.elim
theorem gI0_of {g : Int → Int → D} {x y : D} {Q : D → Prop} (h : gI0 g x y Q) : ∃ i j, x = .int i ∧ y = .int j ∧ Q (g i j) := by
  unfold gI0 at h
  split at h
  · exact ⟨_, _, rfl, rfl, h⟩
  · exact h.elim
theorem opd_I {C : Int → Int → Prop} {g : Int → Int → D} {gv : Int → Int → V} (hg : ∀ i j N H, Rep F.K F.Z N H (g i j) (gv i j)) : OpD F (rI C gv) (gI C g) := ⟨by
  intro N H x y dx dy Qd Q n rx ry h k
  obtain ⟨i, j, rfl, rfl, c, q⟩ := gI_of h
  exact ⟨i, j, rx, ry, c, k _ _ _ Ext.refl (hg i j N H) q⟩⟩
theorem opd_I0 {g : Int → Int → D} {gv : Int → Int → V} (hg : ∀ i j N H, Rep F.K F.Z N H (g i j) (gv i j)) : OpD F (rI0 gv) (gI0 g) := ⟨by
  intro N H x y dx dy Qd Q n rx ry h k
  obtain ⟨i, j, rfl, rfl, q⟩ := gI0_of h
  exact ⟨i, j, rx, ry, k _ _ _ Ext.refl (hg i j N H) q⟩⟩
abbrev gAdd : G2 := gI0 fun i j => .int (i + j)
abbrev gSub : G2 := gI0 fun i j => .int (i - j)
abbrev gMul : G2 := gI CMulW fun i j => .int (i * j)
abbrev gDiv : G2 := gI CDivW fun i j => .int (i / j)
abbrev gMod : G2 := gI (fun _ j => 0 < j) fun i j => .int (i % j)
abbrev gPow : G2 := gI CPow fun i j => .int (i ^ j.toNat)
abbrev gLt : G2 := gI0 fun i j => .bl (decide (i < j))
abbrev gLe : G2 := gI0 fun i j => .bl (decide (i ≤ j))
abbrev gGt : G2 := gI0 fun i j => .bl (decide (j < i))
abbrev gGe : G2 := gI0 fun i j => .bl (decide (j ≤ i))
theorem d_add (ha : PE X a (tD F Ta)) (hb : PE X b (tD F Tb)) : PE X (.BinOp a .Add b pos) (tD F (dBin gAdd Ta Tb)) := d_op op_add (opd_I0 fun _ _ _ _ => rfl) ha hb
theorem d_sub (ha : PE X a (tD F Ta)) (hb : PE X b (tD F Tb)) : PE X (.BinOp a .Sub b pos) (tD F (dBin gSub Ta Tb)) := d_op op_sub (opd_I0 fun _ _ _ _ => rfl) ha hb
theorem d_mul (ha : PE X a (tD F Ta)) (hb : PE X b (tD F Tb)) : PE X (.BinOp a .Mult b pos) (tD F (dBin gMul Ta Tb)) := d_op op_mulW (opd_I fun _ _ _ _ => rfl) ha hb
theorem d_div (ha : PE X a (tD F Ta)) (hb : PE X b (tD F Tb)) : PE X (.BinOp a .FloorDiv b pos) (tD F (dBin gDiv Ta Tb)) := d_op op_fdivW (opd_I fun _ _ _ _ => rfl) ha hb
theorem d_mod (ha : PE X a (tD F Ta)) (hb : PE X b (tD F Tb)) : PE X (.BinOp a .Mod b pos) (tD F (dBin gMod Ta Tb)) := d_op op_mod (opd_I fun _ _ _ _ => rfl) ha hb
theorem d_pow (ha : PE X a (tD F Ta)) (hb : PE X b (tD F Tb)) : PE X (.BinOp a .Pow b pos) (tD F (dBin gPow Ta Tb)) := d_op op_pow (opd_I fun _ _ _ _ => rfl) ha hb
theorem d_lt (ha : PE X a (tD F Ta)) (hb : PE X b (tD F Tb)) : PE X (.Compare a [.Lt] [b] pos) (tD F (dBin gLt Ta Tb)) := d_cmp op_lt (opd_I0 fun _ _ _ _ => rfl) ha hb (nomark _)
theorem d_le (ha : PE X a (tD F Ta)) (hb : PE X b (tD F Tb)) : PE X (.Compare a [.LtE] [b] pos) (tD F (dBin gLe Ta Tb)) := d_cmp op_le (opd_I0 fun _ _ _ _ => rfl) ha hb (nomark _)
theorem d_gt (ha : PE X a (tD F Ta)) (hb : PE X b (tD F Tb)) : PE X (.Compare a [.Gt] [b] pos) (tD F (dBin gGt Ta Tb)) := d_cmp op_gt (opd_I0 fun _ _ _ _ => rfl) ha hb (nomark _)
theorem d_ge (ha : PE X a (tD F Ta)) (hb : PE X b (tD F Tb)) : PE X (.Compare a [.GtE] [b] pos) (tD F (dBin gGe Ta Tb)) := d_cmp op_ge (opd_I0 fun _ _ _ _ => rfl) ha hb (nomark _)
theorem dt_lt (ha : PE X a (tD F Ta)) (hb : PE X b (tD F Tb)) : PT X (.Compare a [.Lt] [b] pos) (tDT F (dTest (dBin gLt Ta Tb))) := dt_cmp op_lt (opd_I0 fun _ _ _ _ => rfl) ha hb (nomark _)
theorem dt_le (ha : PE X a (tD F Ta)) (hb : PE X b (tD F Tb)) : PT X (.Compare a [.LtE] [b] pos) (tDT F (dTest (dBin gLe Ta Tb))) := dt_cmp op_le (opd_I0 fun _ _ _ _ => rfl) ha hb (nomark _)
theorem dt_gt (ha : PE X a (tD F Ta)) (hb : PE X b (tD F Tb)) : PT X (.Compare a [.Gt] [b] pos) (tDT F (dTest (dBin gGt Ta Tb))) := dt_cmp op_gt (opd_I0 fun _ _ _ _ => rfl) ha hb (nomark _)
theorem dt_ge (ha : PE X a (tD F Ta)) (hb : PE X b (tD F Tb)) : PT X (.Compare a [.GtE] [b] pos) (tDT F (dTest (dBin gGe Ta Tb))) := dt_cmp op_ge (opd_I0 fun _ _ _ _ => rfl) ha hb (nomark _)

/-! ### == -/
mutual
/-- the library's data -/
def toP : D → PyData
  | .non => .none
  | .bl b => .bool b
  | .int i => .int i
  | .str x => .str x
  | .tup ds => .tuple (toPs ds)
  | .lst ds => .list (toPs ds)
  | .deck => .none
  | .ty _ => .none
def toPs : List D → List PyData
  | [] => []
  | d :: ds => toP d :: toPs ds
end
mutual
def plain : D → Bool
  | .tup ds => plains ds
  | .lst ds => plains ds
  | .deck => false
  | .ty _ => false
  | _ => true
def plains : List D → Bool
  | [] => true
  | d :: ds => plain d && plains ds
end
section
variable {K : PySem.W.Frag} {Z : Zn} {N : Addr → Prop} {H : Hp}
theorem sqt_of {a : Addr} {vs : List V} (h : (¬ N a ∧ H a = some (.tup vs)) ∨ SqT K NK a vs) : SqT K H a vs := by
  rcases h with ⟨_, h⟩ | h
  · exact .inl (.inl h)
  · rcases h with (h | ⟨o, h⟩) | h
    · cases h
    · cases h
    · exact .inr h
mutual
theorem Rep.dp : ∀ (d : D) (v : V), plain d = true → Rep K Z N H d v → Dp K H v (toP d)
  | .non, _, _, h => by rw [show _ = V.non from h]; exact .non
  | .bl b, _, _, h => by rw [show _ = V.bl b from h]; exact .bl b
  | .int i, _, _, h => by rw [show _ = V.int i from h]; exact .int i
  | .str x, _, _, h => by rw [show _ = V.str x from h]; exact .str x
  | .tup ds, _, p, h => by
    obtain ⟨a, vs, rfl, r, q⟩ := h
    exact .tup (sqt_of r) (Reps.dp ds vs p q)
  | .lst ds, _, p, h => by
    obtain ⟨a, vs, rfl, _, r, q⟩ := h
    exact .lst (SqL.of r) (Reps.dp ds vs p q)
  | .deck, _, p, _ => by cases p
  | .ty _, _, p, _ => by cases p
theorem Reps.dp : ∀ (ds : List D) (vs : List V), plains ds = true → Reps K Z N H ds vs → DpAll K H vs (toPs ds)
  | [], _, _, h => by cases h; exact .nil
  | d :: ds, _, p, h => by
    obtain ⟨v, r, rfl, h1, h2⟩ := h
    obtain ⟨p1, p2⟩ := Bool.and_eq_true_iff.mp p
    exact .cons (Rep.dp d v p1 h1) (Reps.dp ds r p2 h2)
end
end
/-- data that can be compared -/
def eqOk (d : D) : Bool := plain d && SeqAt.shaped (toP d)
def gEq : G2 := fun x y Q => match x, y with
  | .int i, .int j => Q (.bl (decide (i = j)))
  | .str i, .str j => Q (.bl (decide (i = j)))
  | x, y => (eqOk x = true ∧ eqOk y = true) ∧ Q (.bl (PyData.eqv (toP x) (toP y)))
def gNe : G2 := fun x y Q => match x, y with
  | .int i, .int j => Q (.bl (!decide (i = j)))
  | .str i, .str j => Q (.bl (!decide (i = j)))
  | x, y => (eqOk x = true ∧ eqOk y = true) ∧ Q (.bl (!PyData.eqv (toP x) (toP y)))
theorem opd_eq : OpD F (fun x y H Q => rEqD F.K x y H Q ∨ rEq x y H Q) gEq := ⟨by
  intro N H x y dx dy Qd Q n rx ry h k
  unfold gEq at h
  split at h
  · rename_i i j
    cases (show x = .int i from rx)
    cases (show y = .int j from ry)
    refine .inr ⟨rfl, k _ _ _ Ext.refl rep_bl ?_⟩
    rw [dec_int, Bool.beq_eq_decide_eq]
    exact h
  · rename_i i j
    cases (show x = .str i from rx)
    cases (show y = .str j from ry)
    refine .inr ⟨rfl, k _ _ _ Ext.refl rep_bl ?_⟩
    rw [dec_str, Bool.beq_eq_decide_eq]
    exact h
  · obtain ⟨⟨h1, h2⟩, q⟩ := h
    obtain ⟨p1, s1⟩ := Bool.and_eq_true_iff.mp h1
    obtain ⟨p2, s2⟩ := Bool.and_eq_true_iff.mp h2
    exact .inl ⟨_, _, Rep.dp dx x p1 rx, Rep.dp dy y p2 ry, s1, s2, k _ _ _ Ext.refl rep_bl q⟩⟩
theorem opd_ne : OpD F (fun x y H Q => rNeD F.K x y H Q ∨ rNe x y H Q) gNe := ⟨by
  intro N H x y dx dy Qd Q n rx ry h k
  unfold gNe at h
  split at h
  · rename_i i j
    cases (show x = .int i from rx)
    cases (show y = .int j from ry)
    refine .inr ⟨rfl, k _ _ _ Ext.refl rep_bl ?_⟩
    rw [dec_int, Bool.beq_eq_decide_eq]
    exact h
  · rename_i i j
    cases (show x = .str i from rx)
    cases (show y = .str j from ry)
    refine .inr ⟨rfl, k _ _ _ Ext.refl rep_bl ?_⟩
    rw [dec_str, Bool.beq_eq_decide_eq]
    exact h
  · obtain ⟨⟨h1, h2⟩, q⟩ := h
    obtain ⟨p1, s1⟩ := Bool.and_eq_true_iff.mp h1
    obtain ⟨p2, s2⟩ := Bool.and_eq_true_iff.mp h2
    exact .inl ⟨_, _, Rep.dp dx x p1 rx, Rep.dp dy y p2 ry, s1, s2, k _ _ _ Ext.refl rep_bl q⟩⟩
theorem d_eq (hK : F.K = X.K) (hu : X.A.units + 64 < cLine) (ha : PE X a (tD F Ta)) (hb : PE X b (tD F Tb)) : PE X (.Compare a [.Eq] [b] pos) (tD F (dBin gEq Ta Tb)) := by
  have o := opd_eq (F := F)
  rw [hK] at o
  exact d_cmp ((op_eqD hu).or op_eq) o ha hb (nomark _)
theorem d_ne (hK : F.K = X.K) (hu : X.A.units + 64 < cLine) (ha : PE X a (tD F Ta)) (hb : PE X b (tD F Tb)) : PE X (.Compare a [.NotEq] [b] pos) (tD F (dBin gNe Ta Tb)) := by
  have o := opd_ne (F := F)
  rw [hK] at o
  exact d_cmp ((op_neD hu).or op_ne) o ha hb (nomark _)
theorem dt_eq (hK : F.K = X.K) (hu : X.A.units + 64 < cLine) (ha : PE X a (tD F Ta)) (hb : PE X b (tD F Tb)) : PT X (.Compare a [.Eq] [b] pos) (tDT F (dTest (dBin gEq Ta Tb))) := by
  have o := opd_eq (F := F)
  rw [hK] at o
  exact dt_cmp ((op_eqD hu).or op_eq) o ha hb (nomark _)
theorem dt_ne (hK : F.K = X.K) (hu : X.A.units + 64 < cLine) (ha : PE X a (tD F Ta)) (hb : PE X b (tD F Tb)) : PT X (.Compare a [.NotEq] [b] pos) (tDT F (dTest (dBin gNe Ta Tb))) := by
  have o := opd_ne (F := F)
  rw [hK] at o
  exact dt_cmp ((op_neD hu).or op_ne) o ha hb (nomark _)

/-! ### argument lists, displays -/
def dNil : TDA := fun _ _ Q => Q []
def dCons (Ta : TDE) (Tr : TDA) : TDA := fun ξ env Q => Ta ξ env fun x => Tr ξ env fun xs => Q (x :: xs)
theorem da_nil : PA X [] (tDA F dNil) := PA.imp pa_nil (by
  rintro σ H Q ⟨N, env, Qd, f, hT, k⟩
  exact k [] H [] Ext.refl rfl hT)
theorem tCons_imp {Tr : TDA} : ∀ σ H Q, tDA F (dCons Ta Tr) σ H Q → tCons (tD F Ta) (tDA F Tr) σ H Q := by
  rintro σ H Q ⟨N, env, Qd, f, hT, k⟩
  refine ⟨N, env, _, f, hT, fun x H1 dx e1 r1 q1 => ?_⟩
  exact ⟨N, env, _, f.ext' e1, q1, fun xs H2 ds e2 r2 q2 => k _ H2 (dx :: ds) (e1.trans e2) ⟨x, xs, rfl, r1.ext e2 f.n.z, r2⟩ q2⟩
theorem da_cons {Tr : TDA} (ha : PE X e (tD F Ta)) (hr : PA X es (tDA F Tr)) (hs : starEach (e :: es) X.env = (false, eval e X.env) :: starEach es X.env := by rfl) : PA X (e :: es) (tDA F (dCons Ta Tr)) :=
  PA.imp (pa_cons ha hr hs) tCons_imp
def dTup (T : TDA) : TDE := fun ξ env Q => T ξ env fun ds => ds.length ≤ sizeLine ∧ Q (.tup ds)
def dLst (T : TDA) : TDE := fun ξ env Q => T ξ env fun ds => ds.length ≤ sizeLine ∧ Q (.lst ds)
theorem rep_newT {N : Addr → Prop} {H : Hp} {p : Addr} {vs : List V} {ds : List D} (n : NOk F N H) (hp : H p = none) (r : Reps F.K F.Z N H ds vs) : Rep F.K F.Z N (upd H p (.tup vs)) (.tup ds) (.ref p) :=
  ⟨p, vs, rfl, .inl ⟨n.fresh hp, upd_same⟩, r.ext (n.lay hp) n.z⟩
theorem rep_newL {N : Addr → Prop} {H : Hp} {p : Addr} {vs : List V} {ds : List D} (n : NOk F N H) (hp : H p = none) (r : Reps F.K F.Z N H ds vs) : Rep F.K F.Z N (upd H p (.lst vs)) (.lst ds) (.ref p) :=
  ⟨p, vs, rfl, n.fresh hp, upd_same, r.ext (n.lay hp) n.z⟩
theorem d_tup {x1 : _} (h : PA X es (tDA F Tas)) : PE X (.Tuple es x1 pos) (tD F (dTup Tas)) := PE.imp (pe_tup h) (by
  rintro σ H Q ⟨N, env, Qd, f, hT, k⟩
  refine ⟨N, env, _, f, hT, fun vs H1 ds e1 r1 q1 => ⟨by rw [← r1.length]; exact q1.1, fun p hp => ?_⟩⟩
  have n := (f.ext' e1).n
  exact k _ _ (.tup ds) (e1.trans (n.lay hp)) (rep_newT n hp r1) q1.2)
theorem d_lst (h : PA X es (tDA F Tas)) : PE X (.List es pos) (tD F (dLst Tas)) := PE.imp (pe_lst h) (by
  rintro σ H Q ⟨N, env, Qd, f, hT, k⟩
  refine ⟨N, env, _, f, hT, fun vs H1 ds e1 r1 q1 => ⟨by rw [← r1.length]; exact q1.1, fun p hp => ?_⟩⟩
  have n := (f.ext' e1).n
  exact k _ _ (.lst ds) (e1.trans (n.lay hp)) (rep_newL n hp r1) q1.2)

/-! ### subscripts -/
def gIx : G2 := fun x y Q => match x, y with
  | .tup ds, .int i => match atI ds i with
    | some d => Q d
    | none => False
  | .lst ds, .int i => match atI ds i with
    | some d => Q d
    | none => False
  | _, _ => False
theorem atI_rep {N : Addr → Prop} {H : Hp} {ds : List D} {vs : List V} {i : Int} {d : D} (r : Reps F.K F.Z N H ds vs) (h : atI ds i = some d) : ∃ v, atI vs i = some v ∧ Rep F.K F.Z N H d v := by
  unfold atI at h ⊢
  rw [← r.length]
  cases q : ixN ds.length i with
  | none => rw [q] at h; cases h
  | some j =>
    rw [q] at h
    obtain ⟨v, h1, h2⟩ := r.get (i := j) h
    exact ⟨v, h1, h2⟩
theorem opd_ix : OpD F (rIx F.K) gIx := ⟨by
  intro N H x y dx dy Qd Q n rx ry h k
  unfold gIx at h
  split at h
  · rename_i ds i
    split at h
    · rename_i d hd
      obtain ⟨a, vs, rfl, r, q⟩ := rx
      obtain ⟨v, h1, h2⟩ := atI_rep q hd
      exact .inr (.inl ⟨a, vs, i, v, rfl, ry, sqt_of r, h1, k _ _ _ Ext.refl h2 h⟩)
    · exact h.elim
  · rename_i ds i
    split at h
    · rename_i d hd
      obtain ⟨a, vs, rfl, _, r, q⟩ := rx
      obtain ⟨v, h1, h2⟩ := atI_rep q hd
      exact .inl ⟨a, vs, i, v, rfl, ry, SqL.of r, h1, k _ _ _ Ext.refl h2 h⟩
    · exact h.elim
  · exact h.elim⟩
theorem d_ix (hK : F.K = X.K) (ha : PE X a (tD F Ta)) (hb : PE X b (tD F Tb)) (hs : PlainIx b) : PE X (.Subscript a b pos) (tD F (dBin gIx Ta Tb)) := by
  have o := opd_ix (F := F)
  rw [hK] at o
  exact PE.imp (pe_ix ix_seq ha hb hs) (tOp_imp o)

/-! ### built-in functions -/
abbrev GA := List D → (D → Prop) → Prop
structure CallD (F : FP) (r : List V → Hp → VK → Prop) (g : GA) : Prop where
  ok : ∀ N H vs ds Qd (Q : VK), NOk F N H → Reps F.K F.Z N H ds vs → g ds Qd → (∀ v H' d, Ext F.Z H H' → Rep F.K F.Z N H' d v → Qd d → Q v H') → r vs H Q
def dCB (g : GA) (T : TDA) : TDE := fun ξ env Q => T ξ env fun ds => g ds Q
theorem tCB_imp {r : List V → Hp → VK → Prop} {g : GA} (hg : CallD F r g) : ∀ σ H Q, tD F (dCB g Tas) σ H Q → tCB r (tDA F Tas) σ H Q := by
  rintro σ H Q ⟨N, env, Qd, f, hT, k⟩
  refine ⟨N, env, _, f, hT, fun vs H1 ds e1 r1 q1 => ?_⟩
  exact hg.ok N H1 vs ds _ _ (f.ext' e1).n r1 q1 fun v H2 d e2 r2 q2 => k v H2 d (e1.trans e2) r2 q2
variable {x : Str} {p : Pos} {bid T : String} {r : List V → Hp → VK → Prop} {g : GA}
theorem d_callB (hg' : CallD F r g) (hc : CallR X (.builtin bid) r) (hg : Gl X x) (hm : X.mg x = none) (hv : bootBuiltins x = some (.builtin bid)) (ha : PA X (e :: es) (tDA F Tas)) (hn : x ≠ "__name__" := by decide) (hdb : (x == ("__debug__" : Str)) = false := by decide)
    (he : starEach (e :: es) X.env = (false, eval e X.env) :: starEach es X.env := by rfl) (hpl : (backTo pos (starEach es X.env)).any (·.1) = false := by rfl) : PE X (.Call (.Name x p) (e :: es) [] pos) (tD F (dCB g Tas)) :=
  PE.imp (pe_callB hc hg hm hv ha hn hdb he hpl) (tCB_imp hg')
theorem d_callTy (hg' : CallD F r g) (hc : CallR X (.type T) r) (hg : Gl X x) (hm : X.mg x = none) (hv : bootBuiltins x = some (.type T)) (ha : PA X (e :: es) (tDA F Tas)) (hn : x ≠ "__name__" := by decide) (hdb : (x == ("__debug__" : Str)) = false := by decide)
    (he : starEach (e :: es) X.env = (false, eval e X.env) :: starEach es X.env := by rfl) (hpl : (backTo pos (starEach es X.env)).any (·.1) = false := by rfl) : PE X (.Call (.Name x p) (e :: es) [] pos) (tD F (dCB g Tas)) :=
  PE.imp (pe_callTy hc hg hm hv ha hn hdb he hpl) (tCB_imp hg')
def gAbs : GA := fun xs Q => match xs with
  | [.int i] => Q (.int (if i < 0 then -i else i))
  | _ => False
theorem cd_abs : CallD F (fun xs H Q => ∃ i, xs = [.int i] ∧ Q (.int (if i < 0 then -i else i)) H) gAbs := ⟨by
  intro N H vs ds Qd Q n r h k
  unfold gAbs at h
  split at h
  · obtain ⟨v, r, rfl, h1, h2⟩ := r
    cases h2
    exact ⟨_, by rw [show v = _ from h1], k _ _ _ Ext.refl rep_int h⟩
  · exact h.elim⟩
def gLen : GA := fun xs Q => match xs with
  | [.tup ds] => Q (.int ds.length)
  | [.lst ds] => Q (.int ds.length)
  | _ => False
theorem cd_len : CallD F (fun xs H Q => ∃ p ys, xs = [.ref p] ∧ (SqL F.K H p ys ∨ SqT F.K H p ys) ∧ Q (.int ys.length) H) gLen := ⟨by
  intro N H vs ds Qd Q n r h k
  unfold gLen at h
  split at h
  · obtain ⟨v, r, rfl, h1, h2⟩ := r
    cases h2
    obtain ⟨a, vs, rfl, r, q⟩ := h1
    exact ⟨a, vs, rfl, .inr (sqt_of r), k _ _ _ Ext.refl rep_int (by rw [← q.length]; exact h)⟩
  · obtain ⟨v, r, rfl, h1, h2⟩ := r
    cases h2
    obtain ⟨a, vs, rfl, _, r, q⟩ := h1
    exact ⟨a, vs, rfl, .inl (SqL.of r), k _ _ _ Ext.refl rep_int (by rw [← q.length]; exact h)⟩
  · exact h.elim⟩
/-- int(n), int(flag) -/
def gInt : GA := fun xs Q => match xs with
  | [.int i] => Q (.int i)
  | [.bl b] => Q (.int (if b then 1 else 0))
  | _ => False
theorem cd_int : CallD F (fun xs H Q => (∃ i, xs = [.int i] ∧ Q (.int i) H) ∨ ∃ k, xs = [.bl k] ∧ Q (.int (if k then 1 else 0)) H) gInt := ⟨by
  intro N H vs ds Qd Q n r h k
  unfold gInt at h
  split at h
  · obtain ⟨v, r, rfl, h1, h2⟩ := r
    cases h2
    exact .inl ⟨_, by rw [show v = _ from h1], k _ _ _ Ext.refl rep_int h⟩
  · obtain ⟨v, r, rfl, h1, h2⟩ := r
    cases h2
    exact .inr ⟨_, by rw [show v = _ from h1], k _ _ _ Ext.refl rep_int h⟩
  · exact h.elim⟩
/-- all([..]) -/
def blsOf : List D → Option (List Bool)
  | [] => some []
  | .bl b :: ds => (blsOf ds).map (b :: ·)
  | _ :: _ => none
theorem blsOf_eq : ∀ {ds : List D} {bs : List Bool}, blsOf ds = some bs → ds = bs.map D.bl
  | [], bs, h => by simp [blsOf] at h; subst h; rfl
  | d :: ds, bs, h => by
    cases d <;> first | (simp [blsOf] at h; done) | skip
    rename_i b
    simp only [blsOf, Option.map_eq_some_iff] at h
    obtain ⟨r, h1, h2⟩ := h
    rw [← h2, blsOf_eq h1]; rfl
def gAll : GA := fun xs Q => match xs with
  | [.lst ds] => match blsOf ds with
    | some bs => Q (.bl (bs.all id))
    | none => False
  | _ => False
def gAny : GA := fun xs Q => match xs with
  | [.lst ds] => match blsOf ds with
    | some bs => Q (.bl (bs.any id))
    | none => False
  | _ => False
theorem cd_all : CallD F (fun vs H Q => ∃ (a : Addr) (bs : List Bool), vs = [V.ref a] ∧ SqL F.K H a (bs.map V.bl) ∧ Q (.bl (bs.all id)) H) gAll := ⟨by
  intro N H vs ds Qd Q n r h k
  unfold gAll at h
  split at h
  · split at h
    · rename_i ds bs hb
      obtain ⟨v, r, rfl, h1, h2⟩ := r
      cases h2
      obtain ⟨a, vs, rfl, _, r, q⟩ := h1
      rw [blsOf_eq hb] at q
      rw [q.bls] at r
      exact ⟨a, bs, rfl, SqL.of r, k _ _ _ Ext.refl rep_bl h⟩
    · exact h.elim
  · exact h.elim⟩
/-- isinstance(x, T) of the built-in types that occur -/
inductive PyT where
  | int | bool | tuple | list | str | dict
def PyT.name : PyT → String
  | .int => "int"
  | .bool => "bool"
  | .tuple => "tuple"
  | .list => "list"
  | .str => "str"
  | .dict => "dict"
def isD : PyT → D → Bool
  | .int, .int _ => true
  | .int, .bl _ => true
  | .bool, .bl _ => true
  | .tuple, .tup _ => true
  | .list, .lst _ => true
  | .str, .str _ => true
  | _, _ => false
def typed : D → Bool
  | .deck => false
  | .ty _ => false
  | _ => true
def gIsi (T : PyT) : GA := fun xs Q => match xs with
  | [x, _] => typed x = true ∧ Q (.bl (isD T x))
  | _ => False
theorem kt {K : PySem.W.Frag} {a b : String} {r r' : Bool} (h : kitB a b = some r) (e : r = r') : PySem.W.kitOne K (.type a) (.type b) = some r' := e ▸ kit_ty h
theorem kt_non : ∀ T : PyT, kitB "NoneType" T.name = some false := fun T => by cases T <;> decide +kernel
theorem kt_str : ∀ T : PyT, kitB "str" T.name = some (isD T (.str Str.empty)) := fun T => by cases T <;> decide +kernel
theorem kt_bl : ∀ T : PyT, kitB "bool" T.name = some (isD T (.bl true)) := fun T => by cases T <;> decide +kernel
theorem kt_int : ∀ T : PyT, kitB "int" T.name = some (isD T (.int 0)) := fun T => by cases T <;> decide +kernel
theorem kt_tup : ∀ T : PyT, kitB "tuple" T.name = some (isD T (.tup [])) := fun T => by cases T <;> decide +kernel
theorem kt_lst : ∀ T : PyT, kitB "list" T.name = some (isD T (.lst [])) := fun T => by cases T <;> decide +kernel
theorem tyx_of {N : Addr → Prop} {H : Hp} : ∀ {d : D} {v : V}, typed d = true → Rep F.K F.Z N H d v → ∃ t, TyX F.K H v (.type t) ∧ ∀ T : PyT, PySem.W.kitOne F.K (.type t) (.type T.name) = some (isD T d)
  | .non, v, _, h => ⟨"NoneType", by rw [show v = _ from h]; exact .base .non, fun T => kt (kt_non T) (by cases T <;> rfl)⟩
  | .bl b, v, _, h => ⟨"bool", by rw [show v = _ from h]; exact .base (.bl b), fun T => kt (kt_bl T) (by cases T <;> rfl)⟩
  | .int b, v, _, h => ⟨"int", by rw [show v = _ from h]; exact .base (.int b), fun T => kt (kt_int T) (by cases T <;> rfl)⟩
  | .str b, v, _, h => ⟨"str", by rw [show v = _ from h]; exact .base (.str b), fun T => kt (kt_str T) (by cases T <;> rfl)⟩
  | .tup ds, v, _, h => by
    obtain ⟨a, vs, rfl, r, q⟩ := h
    refine ⟨"tuple", ?_, fun T => kt (kt_tup T) (by cases T <;> rfl)⟩
    rcases r with ⟨_, r⟩ | (r | ⟨_, r⟩) | ⟨o, _, _, h1, h2, _⟩
    · exact .base (.tup r)
    · cases r
    · cases r
    · exact .kTuple h1 h2
  | .lst ds, v, _, h => by
    obtain ⟨a, vs, rfl, _, r, q⟩ := h
    exact ⟨"list", .base (.lst r), fun T => kt (kt_lst T) (by cases T <;> rfl)⟩
  | .deck, _, p, _ => by cases p
  | .ty _, _, p, _ => by cases p
theorem cd_isi (T : PyT) : CallD F (fun xs H Q => (∃ (x c : V), xs = [x, c] ∧ c = .ty T.name) → rIsi F.K xs H Q) (gIsi T) := ⟨by
  intro N H vs ds Qd Q n r h k
  rintro ⟨x, c, rfl, rfl⟩
  unfold gIsi at h
  split at h
  · rename_i dx dc
    obtain ⟨v, r1, e1, h1, h2⟩ := r
    cases e1
    obtain ⟨t, h3, h4⟩ := tyx_of h.1 h1
    exact ⟨x, _, _, _, _, rfl, .ty _, h3, h4 T, k _ _ _ Ext.refl rep_bl h.2⟩
  · exact h.elim⟩
end
end DL
set_option Elab.async false
set_option linter.all false
set_option maxRecDepth 100000
namespace DL
open PySem PySem.Spec L2
open PyProof.Rows hiding St

section
variable {X : Cx} {F : FP} {e a b c : Expr} {es : List Expr} {st : Stmt} {rest : List Stmt} {pos : Pos} {Ta Tb Tc : TDE} {Tas : TDA} {T U : TDS}

theorem EndsOk.of {N0 : Addr → Prop} {H0 : Hp} {N : Addr → Prop} {H : Hp} {Dd : DEnds} {De : Ends} (ok : EndsOk F N0 H0 Dd De) (v : Evo N0 H0 N H) : EndsOk F N H Dd De :=
  ⟨fun N' σ H' env f e => ok.nx N' σ H' env f (v.trans e), ok.rt, fun N' σ H' env f e => ok.bk N' σ H' env f (v.trans e), fun N' σ H' env f e => ok.ct N' σ H' env f (v.trans e)⟩

/-! ### blocks -/
def dNext : TDS := fun _ De env => De.nx env
def dSeq (t u : TDS) : TDS := fun ξ De env => t ξ { De with nx := u ξ De } env
theorem ds_nil : PSs X [] (sD F dNext) := PSs.imp pss_nil (by
  rintro De σ H ⟨N, env, Dd, f, hT, ok⟩
  exact ok.nx _ _ _ _ f .refl hT)
theorem ds_pass : PS X (.Pass pos) (sD F dNext) := PS.imp ps_pass (by
  rintro De σ H ⟨N, env, Dd, f, hT, ok⟩
  exact ok.nx _ _ _ _ f .refl hT)
theorem ds_cons (h1 : PS X st (sD F T)) (h2 : PSs X rest (sD F U)) : PSs X (st :: rest) (sD F (dSeq T U)) := PSs.imp (pss_cons h1 h2) (by
  rintro De σ H ⟨N, env, Dd, f, hT, ok⟩
  exact ⟨N, env, { Dd with nx := U F.ex Dd }, f, hT, ⟨fun N' σ' H' env' f' v hu => ⟨N', env', Dd, f', hu, ok.of v⟩, ok.rt, ok.bk, ok.ct⟩⟩)
theorem ds_one (h1 : PS X st (sD F T)) : PSs X [st] (sD F T) := pss_one h1
def dBreak : TDS := fun _ De env => De.bk env
def dCont : TDS := fun _ De env => De.ct env
theorem ds_break : PS X (.Break pos) (sD F dBreak) := PS.imp ps_break (by
  rintro De σ H ⟨N, env, Dd, f, hT, ok⟩
  exact ok.bk _ _ _ _ f .refl hT)
theorem ds_continue : PS X (.Continue pos) (sD F dCont) := PS.imp ps_continue (by
  rintro De σ H ⟨N, env, Dd, f, hT, ok⟩
  exact ok.ct _ _ _ _ f .refl hT)
def dDrop (T : TDE) : TDS := fun ξ De env => T ξ env fun _ => De.nx env
theorem ds_expr (he : PE X e (tD F Ta)) (hs : swapsWith e none pos.line X.env = pure false := by rfl) : PS X (.Expr e pos) (sD F (dDrop Ta)) := PS.imp (ps_expr he hs) (by
  rintro De σ H ⟨N, env, Dd, f, hT, ok⟩
  exact ⟨N, env, _, f, hT, fun v H' d e1 r q => ok.nx _ _ _ _ (f.ext' e1) (.of f.n e1) q⟩)
def dRet (T : TDE) : TDS := fun ξ De env => T ξ env De.rt
theorem ds_ret (he : PE X e (tD F Ta)) : PS X (.Return (some e) pos) (sD F (dRet Ta)) := PS.imp (ps_ret he) (by
  rintro De σ H ⟨N, env, Dd, f, hT, ok⟩
  exact ⟨N, env, _, f, hT, fun v H' d e1 r q => ok.rt v H' d (f.n.ext.trans e1) (r.less f.n.sub) q⟩)
def dRetN : TDS := fun _ De _ => De.rt .non
theorem ds_retN : PS X (.Return none pos) (sD F dRetN) := PS.imp ps_retN (by
  rintro De σ H ⟨N, env, Dd, f, hT, ok⟩
  exact ok.rt _ _ _ f.n.ext rep_non hT)
def dIfS (c : TDT) (t u : TDS) : TDS := fun ξ De env => c ξ env fun b => if b = true then t ξ De env else u ξ De env
theorem ds_if {c : Expr} {a b : List Stmt} {tc : TDT} (hc : PT X c (tDT F tc)) (ha : PSs X a (sD F T)) (hb : PSs X b (sD F U)) : PS X (.If c a b pos) (sD F (dIfS tc T U)) := PS.imp (ps_if hc ha hb) (by
  rintro De σ H ⟨N, env, Dd, f, hT, ok⟩
  refine ⟨N, env, _, f, hT, fun k H1 e1 q1 => ?_⟩
  by_cases hk : k = true
  · rw [if_pos hk] at q1 ⊢
    exact ⟨N, env, Dd, f.ext' e1, q1, ok.of (.of f.n e1)⟩
  · rw [if_neg hk] at q1 ⊢
    exact ⟨N, env, Dd, f.ext' e1, q1, ok.of (.of f.n e1)⟩)
/-- never come to -/
def dNever : TDS := fun _ _ _ => False
theorem ds_never : PS X st (sD F dNever) := PS.imp ps_never (by
  rintro De σ H ⟨N, env, Dd, f, hT, ok⟩
  exact hT.elim)
theorem dss_never {sts : List Stmt} : PSs X sts (sD F dNever) := PSs.imp pss_never (by
  rintro De σ H ⟨N, env, Dd, f, hT, ok⟩
  exact hT.elim)

/-! ### targets -/
theorem FOk.set {N : Addr → Prop} {σ : L2.St} {H : Hp} {env : SE} (f : FOk F N σ H env) (i : Nat) {x : D} {v : V} (r : Rep F.K F.Z N H x v) : FOk F N (σ.set i (some v)) H (env.set i (.d x)) where
  n := f.n
  len := by rw [List.length_set, List.length_set]; exact f.len
  slot := fun j s h => by
    by_cases hj : i = j
    · subst hj
      have hl : i < env.length := by
        have := (List.getElem?_eq_some_iff.mp h).1
        rwa [List.length_set] at this
      rw [List.getElem?_set_self hl] at h
      cases h
      exact ⟨v, by rw [List.getElem?_set_self (by rw [f.len]; exact hl)], r⟩
    · rw [List.getElem?_set_ne hj] at h
      rw [List.getElem?_set_ne hj]
      exact f.slot j s h
  apart := fun j k p xs ys hjk h1 h2 h3 h4 => by
    have o : ∀ {j : Nat} {xs : List D}, (env.set i (.d x))[j]? = some (.own xs) → i ≠ j ∧ env[j]? = some (.own xs) := fun {j xs} h => by
      by_cases hj : i = j
      · subst hj
        have hl : i < env.length := by
          have := (List.getElem?_eq_some_iff.mp h).1
          rwa [List.length_set] at this
        rw [List.getElem?_set_self hl] at h
        cases h
      · rw [List.getElem?_set_ne hj] at h
        exact ⟨hj, h⟩
    obtain ⟨n1, h1⟩ := o h1
    obtain ⟨n2, h2⟩ := o h2
    rw [List.getElem?_set_ne n1] at h3
    rw [List.getElem?_set_ne n2] at h4
    exact f.apart j k p xs ys hjk h1 h2 h3 h4
abbrev TDG := D → SE → (SE → Prop) → Prop
abbrev TDGs := List D → SE → (SE → Prop) → Prop
def gD (F : FP) (G : TDG) : TG := fun v σ H Q => ∃ N env d Qd, FOk F N σ H env ∧ Rep F.K F.Z N H d v ∧ G d env Qd ∧ ∀ σ' env', FOk F N σ' H env' → Qd env' → Q σ' H
def gDs (F : FP) (G : TDGs) : TGs := fun vs σ H Q => ∃ N env ds Qd, FOk F N σ H env ∧ Reps F.K F.Z N H ds vs ∧ G ds env Qd ∧ ∀ σ' env', FOk F N σ' H env' → Qd env' → Q σ' H
theorem PG.imp {t t' : TG} (h : PG X e t) (hi : ∀ v σ H Q, t' v σ H Q → t v σ H Q) : PG X e t' := ⟨fun pins s σ H v u Q I r hw => h.run pins s σ H v u Q I r (hi _ _ _ _ hw)⟩
theorem PGs.imp {t t' : TGs} (h : PGs X es t) (hi : ∀ v σ H Q, t' v σ H Q → t v σ H Q) : PGs X es t' := ⟨fun pins s σ H v u Q I r hw => h.run pins s σ H v u Q I r (hi _ _ _ _ hw)⟩
def dgName (i : Nat) : TDG := fun d env Q => Q (env.set i (.d d))
theorem dg_name {i : Nat} (h : PG X e (gName i)) : PG X e (gD F (dgName i)) := PG.imp h (by
  rintro v σ H Q ⟨N, env, d, Qd, f, r, hG, k⟩
  exact k _ _ (f.set i r) hG)
def dgNil : TDGs := fun ds env Q => match ds with
  | [] => Q env
  | _ => False
def dgCons (G : TDG) (Gs : TDGs) : TDGs := fun ds env Q => match ds with
  | d :: r => G d env fun env' => Gs r env' Q
  | [] => False
theorem dgs_nil : PGs X [] (gDs F dgNil) := PGs.imp pgs_nil (by
  rintro v σ H Q ⟨N, env, ds, Qd, f, r, hG, k⟩
  cases ds with
  | nil => exact ⟨r, k _ _ f hG⟩
  | cons d ds => exact hG.elim)
/-- targets that leave the frame's frozen part as it is (names, tuples of names) -/
theorem dgs_cons {G : TDG} {Gs : TDGs} (h1 : PG X e (gD F G)) (h2 : PGs X es (gDs F Gs)) (hc : (assignEach (e :: es) X.env).map (·.2) = assign e X.env :: (assignEach es X.env).map (·.2) := by rfl) : PGs X (e :: es) (gDs F (dgCons G Gs)) := PGs.imp (pgs_cons h1 h2 hc) (by
  rintro v σ H Q ⟨N, env, ds, Qd, f, r, hG, k⟩
  cases ds with
  | nil => exact hG.elim
  | cons d ds =>
    obtain ⟨v0, vr, rfl, r1, r2⟩ := r
    exact ⟨v0, vr, rfl, N, env, d, _, f, r1, hG, fun σ' env' f' q => ⟨N, env', ds, _, f', r2, q, k⟩⟩)
def dgTup (n : Nat) (Gs : TDGs) : TDG := fun d env Q => match d with
  | .tup ds => ds.length = n ∧ Gs ds env Q
  | _ => False
theorem dg_tup {Gs : TDGs} {k n : Nat} (hK : F.K = X.K) (hc : X.calm = true) (h : PGs X es (gDs F Gs)) (hn : (assignEach es X.env).length = n := by rfl) (hst : (assignEach es X.env).findIdx? (·.1) = none := by rfl) :
    PG X (.Tuple es k pos) (gD F (dgTup n Gs)) := PG.imp (pg_tup hc h hn hst) (by
  rintro v σ H Q ⟨N, env, d, Qd, f, r, hG, k⟩
  cases d <;> first | exact hG.elim | skip
  rename_i ds
  obtain ⟨a, vs, rfl, r1, r2⟩ := r
  exact ⟨a, vs, rfl, by rw [← hK]; exact sqt_of r1, by rw [← r2.length]; exact hG.1, N, env, ds, _, f, r2, hG.2, k⟩)
def dAsg (T : TDE) (G : TDG) : TDS := fun ξ De env => T ξ env fun x => G x env De.nx
theorem tAsg_imp {G : TDG} : ∀ De σ H, sD F (dAsg Ta G) De σ H → tAsg (tD F Ta) (gD F G) De σ H := by
  rintro De σ H ⟨N, env, Dd, f, hT, ok⟩
  exact ⟨N, env, _, f, hT, fun v H' d e1 r q => ⟨N, env, d, _, f.ext' e1, r, q, fun σ' env' f' q' => ok.nx _ _ _ _ f' (.of f.n e1) q'⟩⟩
theorem ds_asg {tg : Expr} {G : TDG} (he : PE X e (tD F Ta)) (hg : PG X tg (gD F G)) (hs : swapsWithSole [tg] e pos.line X.env = pure false := by rfl) (hw : swappedStores [tg] e X.env = pure none := by rfl) (h1 : (assignEach [tg] X.env).map (·.2) = [assign tg X.env] := by rfl) : PS X (.Assign [tg] e pos) (sD F (dAsg Ta G)) :=
  PS.imp (ps_asg he hg hs hw h1) tAsg_imp
/-- x = e, x in slot i -/
theorem ds_set {i : Nat} {x : Str} {pos' : Pos} (hN : X.N.Nodup) (hi : X.N[i]? = some x) (hx : Loc X.env.scope x) (he : PE X e (tD F Ta)) (hs : swapsWith e (some (.Name x pos')) pos.line X.env = pure false := by rfl)
    (hf : X.fn x = true ∨ X.env.scope.names.lookup x = some .local := by first | exact .inl rfl | exact .inr rfl | assumption) : PS X (.Assign [.Name x pos'] e pos) (sD F (dAsg Ta (dgName i))) :=
  PS.imp (ps_set hN hi hx he hs hf) (by
  rintro De σ H ⟨N, env, Dd, f, hT, ok⟩
  exact ⟨N, env, _, f, hT, fun v H' d e1 r q => ok.nx _ _ _ _ ((f.ext' e1).set i r) (.of f.n e1) q⟩)
/-- x, y = a, b -/
def dPar (i j : Nat) (Ta : TDA) : TDS := fun ξ De env => Ta ξ env fun ds => match ds with
  | [x, y] => De.nx ((env.set i (.d x)).set j (.d y))
  | _ => False
theorem tPar_imp {i j : Nat} : ∀ De σ H, sD F (dPar i j Tas) De σ H → tPar i j (tDA F Tas) De σ H := by
  rintro De σ H ⟨N, env, Dd, f, hT, ok⟩
  refine ⟨N, env, _, f, hT, fun vs H' ds e1 r q => ?_⟩
  split at q
  · obtain ⟨v, _, rfl, r1, w, _, rfl, r2, r3⟩ := r
    cases r3
    exact ⟨v, w, rfl, ok.nx _ _ _ _ (((f.ext' e1).set i r1).set j r2) (.of f.n e1) q⟩
  · exact q.elim
def dPar3 (i j l : Nat) (Ta : TDA) : TDS := fun ξ De env => Ta ξ env fun ds => match ds with
  | [x, y, z] => De.nx (((env.set i (.d x)).set j (.d y)).set l (.d z))
  | _ => False
theorem tPar3_imp {i j l : Nat} : ∀ De σ H, sD F (dPar3 i j l Tas) De σ H → tPar3 i j l (tDA F Tas) De σ H := by
  rintro De σ H ⟨N, env, Dd, f, hT, ok⟩
  refine ⟨N, env, _, f, hT, fun vs H' ds e1 r q => ?_⟩
  split at q
  · obtain ⟨v, _, rfl, r1, w, _, rfl, r2, u, _, rfl, r3, r4⟩ := r
    cases r4
    exact ⟨v, w, u, rfl, ok.nx _ _ _ _ ((((f.ext' e1).set i r1).set j r2).set l r3) (.of f.n e1) q⟩
  · exact q.elim
/-- x += e of ints -/
def dAug (i : Nat) (g : G2) (T : TDE) : TDS := fun ξ De env => match env[i]? with
  | some (.d x) => T ξ env fun y => g x y fun z => De.nx (env.set i (.d z))
  | _ => False

/-! ### for -/
def forD (G : TDG) (B : TDS) (ξ : XW) (De : DEnds) : List D → SE → Prop
  | [], env => De.nx env
  | d :: ds, env => G d env fun env' => B ξ { De with nx := forD G B ξ De ds, ct := forD G B ξ De ds, bk := De.nx } env'
def dFor (T : TDE) (G : TDG) (B : TDS) : TDS := fun ξ De env => T ξ env fun d => match d with
  | .lst ds => forD G B ξ De ds env
  | _ => False
def dForT (T : TDE) (G : TDG) (B : TDS) : TDS := fun ξ De env => T ξ env fun d => match d with
  | .tup ds => forD G B ξ De ds env
  | _ => False
theorem forD_step {G : TDG} {B : TDS} {De : Ends} {Dd : DEnds} {N0 N : Addr → Prop} {H0 H : Hp} {σ : L2.St} {env : SE} {d : D} {v : V} {i : Nat} {all : List D} {Pv : Nat → L2.St → Hp → Prop}
    (hP : ∀ i σ H, Pv i σ H ↔ ∃ N env, FOk F N σ H env ∧ Evo N0 H0 N H ∧ forD G B F.ex Dd (all.drop i) env) (ok : EndsOk F N0 H0 Dd De) (f : FOk F N σ H env) (ev : Evo N0 H0 N H)
    (hd : all[i]? = some d) (r : Rep F.K F.Z N H d v) (h : forD G B F.ex Dd (all.drop i) env) :
    gD F G v σ H fun σ2 H2 => sD F B { De with nx := Pv (i + 1), ct := Pv (i + 1), bk := De.nx } σ2 H2 := by
  obtain ⟨hi, e⟩ := List.getElem?_eq_some_iff.mp hd
  rw [List.drop_eq_getElem_cons hi, e] at h
  refine ⟨N, env, d, _, f, r, h, fun σ' env' f' q => ⟨N, env', _, f', q, ⟨fun N1 σ1 H1 env1 f1 v1 q1 => ?_, ok.rt, fun N1 σ1 H1 env1 f1 v1 q1 => ok.nx _ _ _ _ f1 (ev.trans v1) q1, fun N1 σ1 H1 env1 f1 v1 q1 => ?_⟩⟩⟩
  · exact (hP _ _ _).mpr ⟨N1, env1, f1, ev.trans v1, q1⟩
  · exact (hP _ _ _).mpr ⟨N1, env1, f1, ev.trans v1, q1⟩
theorem ds_for {iter tg : Expr} {body : List Stmt} {G : TDG} {B : TDS} (hK : F.K = X.K) (hp : PassesOwn (model X.prog X.w) X.A X.env X.xe) (hc : X.calm = true) (hi : PE X iter (tD F Ta)) (hg : PG X tg (gD F G)) (hb : PSs X body (sD F B))
    (hs : ∀ x, foldedSetIterable iter X.env x = pure x := by intro _; rfl) : PS X (.For tg iter body [] pos) (sD F (dFor Ta G B)) := PS.imp (ps_for hp hc (pi_list hi) hg hb hs) (by
  rintro De σ H ⟨N, env, Dd, f, hT, ok⟩
  refine ⟨N, env, _, f, hT, fun v H1 d e1 r q => ?_⟩
  cases d <;> first | exact q.elim | skip
  rename_i ds
  obtain ⟨a, vs, rfl, na, ra, rs⟩ := r
  refine ⟨a, rfl, ⟨vs, SqL.of ra⟩, ?_⟩
  have f1 := f.ext' e1
  have ok1 := ok.of (.of f.n e1)
  refine for_list (K := X.K) (a := a) (xs := vs) (fun i σ H' => ∃ N' env', FOk F N' σ H' env' ∧ Evo N H1 N' H' ∧ forD G B F.ex Dd (ds.drop i) env') ⟨N, env, f1, .refl, q⟩ (fun i σ' H' _ ⟨N', env', f', ev, _⟩ => SqL.of (ev a _ na ra).1) ?_ ?_
  · rintro i x σ' H' hx ⟨N', env', f', ev, q'⟩
    obtain ⟨d, hd, rd⟩ := rs.getV hx
    exact forD_step (fun _ _ _ => Iff.rfl) ok1 f' ev hd (Rep.mono ev d x rd) q'
  · rintro σ' H' ⟨N', env', f', ev, q'⟩
    rw [← rs.length, List.drop_length] at q'
    exact ok1.nx _ _ _ _ f' ev q')
theorem ds_forT {iter tg : Expr} {body : List Stmt} {G : TDG} {B : TDS} (hK : F.K = X.K) (hp : PassesOwn (model X.prog X.w) X.A X.env X.xe) (hc : X.calm = true) (hi : PE X iter (tD F Ta)) (hg : PG X tg (gD F G)) (hb : PSs X body (sD F B))
    (hs : ∀ x, foldedSetIterable iter X.env x = pure x := by intro _; rfl) : PS X (.For tg iter body [] pos) (sD F (dForT Ta G B)) := PS.imp (ps_for hp hc (pi_tup hi) hg hb hs) (by
  rintro De σ H ⟨N, env, Dd, f, hT, ok⟩
  refine ⟨N, env, _, f, hT, fun v H1 d e1 r q => ?_⟩
  cases d <;> first | exact q.elim | skip
  rename_i ds
  obtain ⟨a, vs, rfl, ra, rs⟩ := r
  refine ⟨a, rfl, ⟨vs, by rw [← hK]; exact sqt_of ra⟩, ?_⟩
  have f1 := f.ext' e1
  have ok1 := ok.of (.of f.n e1)
  refine for_tup (K := X.K) (a := a) (xs := vs) (fun i σ H' => ∃ N' env', FOk F N' σ H' env' ∧ Evo N H1 N' H' ∧ forD G B F.ex Dd (ds.drop i) env') ⟨N, env, f1, .refl, q⟩ (fun i σ' H' _ ⟨N', env', f', ev, _⟩ => ?_) ?_ ?_
  · rw [← hK]
    refine sqt_of (N := N') ?_
    rcases ra with ⟨n, ra⟩ | ra
    · obtain ⟨h1, h2⟩ := ev a _ n ra
      exact .inl ⟨h2, h1⟩
    · exact .inr ra
  · rintro i x σ' H' hx ⟨N', env', f', ev, q'⟩
    obtain ⟨d, hd, rd⟩ := rs.getV hx
    exact forD_step (fun _ _ _ => Iff.rfl) ok1 f' ev hd (Rep.mono ev d x rd) q'
  · rintro σ' H' ⟨N', env', f', ev, q'⟩
    rw [← rs.length, List.drop_length] at q'
    exact ok1.nx _ _ _ _ f' ev q')
/-- the ints lo, lo + 1, .. -/
def intsD (lo : Int) (n : Nat) : List D := (List.range n).map fun (i : Nat) => D.int (lo + i)
theorem ints_get {lo : Int} {n i : Nat} (h : i < n) : (intsD lo n)[i]? = some (.int (lo + i)) := by
  unfold intsD
  rw [List.getElem?_map, List.getElem?_range h]
  rfl
theorem ints_len {lo : Int} {n : Nat} : (intsD lo n).length = n := by simp [intsD]
def dForR (T : TDA) (G : TDG) (B : TDS) : TDS := fun ξ De env => T ξ env fun ds => match ds with
  | [.int j] => (-(2 ^ 62) ≤ j ∧ j < 2 ^ 62) ∧ forD G B ξ De (intsD 0 j.toNat) env
  | _ => False
def dForR2 (T : TDA) (G : TDG) (B : TDS) : TDS := fun ξ De env => T ξ env fun ds => match ds with
  | [.int i, .int j] => (-(2 ^ 62) ≤ i ∧ i < 2 ^ 62 ∧ -(2 ^ 62) ≤ j ∧ j < 2 ^ 62) ∧ forD G B ξ De (intsD i (j - i).toNat) env
  | _ => False
theorem for_rangeD {G : TDG} {B : TDS} {De : Ends} {Dd : DEnds} {N : Addr → Prop} {H1 : Hp} {σ : L2.St} {env : SE} {lo : Int} {n : Nat} (ok1 : EndsOk F N H1 Dd De) (f1 : FOk F N σ H1 env) (q : forD G B F.ex Dd (intsD lo n) env) :
    ∃ W : Nat → Nat → L2.St → Hp → Prop, (∃ m, W 0 m σ H1) ∧ ∀ i m σ H, W i m σ H →
      ((Itr lo n).stop i H ∧ De.nx σ H) ∨ ((Itr lo n).go i H ∧ ∃ N : L2.St → Hp → Prop, (∀ σ' H', N σ' H' → ∃ m', m' < m ∧ W (i + 1) m' σ' H') ∧ ∀ x H', (Itr lo n).yld i H x H' → gD F G x σ H' fun σ2 H2 => sD F B { De with nx := N, ct := N, bk := De.nx } σ2 H2) := by
  refine for_range (lo := lo) (n := n) (fun i σ H' => ∃ N' env', FOk F N' σ H' env' ∧ Evo N H1 N' H' ∧ forD G B F.ex Dd ((intsD lo n).drop i) env') ⟨N, env, f1, .refl, q⟩ ?_ ?_
  · rintro i σ' H' hi ⟨N', env', f', ev, q'⟩
    exact forD_step (fun _ _ _ => Iff.rfl) ok1 f' ev (ints_get hi) rep_int q'
  · rintro σ' H' ⟨N', env', f', ev, q'⟩
    rw [show (intsD lo n).drop n = [] from by rw [List.drop_eq_nil_iff, ints_len]; exact Nat.le_refl _] at q'
    exact ok1.nx _ _ _ _ f' ev q'
theorem ds_forR1 {tg a : Expr} {p pos' : Pos} {body : List Stmt} {G : TDG} {B : TDS} (hp : PassesOwn (model X.prog X.w) X.A X.env X.xe) (hc : X.calm = true) (hgl : Gl X "range") (hm : X.mg "range" = none) (ha : PA X [a] (tDA F Tas)) (hg : PG X tg (gD F G)) (hb : PSs X body (sD F B))
    (hsa : starEach [a] X.env = [(false, eval a X.env)] := by rfl) (hs : ∀ x, foldedSetIterable (.Call (.Name "range" p) [a] [] pos') X.env x = pure x := by intro _; rfl) : PS X (.For tg (.Call (.Name "range" p) [a] [] pos') body [] pos) (sD F (dForR Tas G B)) := PS.imp (ps_for hp hc (pi_range1 hgl hm ha hsa) hg hb hs) (by
  rintro De σ H ⟨N, env, Dd, f, hT, ok⟩
  refine ⟨N, env, _, f, hT, fun vs H1 ds e1 r q => ?_⟩
  split at q
  · obtain ⟨v, _, rfl, r1, r2⟩ := r
    cases r2
    refine ⟨_, by rw [show v = _ from r1], q.1.1, q.1.2, ?_⟩
    exact for_rangeD (ok.of (.of f.n e1)) (f.ext' e1) q.2
  · exact q.elim)
theorem ds_forR2 {tg a b : Expr} {p pos' : Pos} {body : List Stmt} {G : TDG} {B : TDS} (hp : PassesOwn (model X.prog X.w) X.A X.env X.xe) (hc : X.calm = true) (hgl : Gl X "range") (hm : X.mg "range" = none) (ha : PA X [a, b] (tDA F Tas)) (hg : PG X tg (gD F G)) (hb : PSs X body (sD F B))
    (hsa : starEach [a, b] X.env = [(false, eval a X.env), (false, eval b X.env)] := by rfl) (hs2 : starEach [b] X.env = [(false, eval b X.env)] := by rfl) (hs : ∀ x, foldedSetIterable (.Call (.Name "range" p) [a, b] [] pos') X.env x = pure x := by intro _; rfl) : PS X (.For tg (.Call (.Name "range" p) [a, b] [] pos') body [] pos) (sD F (dForR2 Tas G B)) := PS.imp (ps_for hp hc (pi_range2 hgl hm ha hsa hs2) hg hb hs) (by
  rintro De σ H ⟨N, env, Dd, f, hT, ok⟩
  refine ⟨N, env, _, f, hT, fun vs H1 ds e1 r q => ?_⟩
  split at q
  · obtain ⟨v, _, rfl, r1, w, _, rfl, r2, r3⟩ := r
    cases r3
    refine ⟨_, _, by rw [show v = _ from r1, show w = _ from r2], q.1, ?_⟩
    exact for_rangeD (ok.of (.of f.n e1)) (f.ext' e1) q.2
  · exact q.elim)

/-! ### while -/
def whileN (c : TDT) (B : TDS) (ξ : XW) (De : DEnds) : Nat → SE → Prop
  | 0, _ => False
  | n + 1, env => c ξ env fun k => if k = true then B ξ { De with nx := whileN c B ξ De n, ct := whileN c B ξ De n, bk := De.nx } env else De.nx env
def dWhile (c : TDT) (B : TDS) : TDS := fun ξ De env => ∃ n, whileN c B ξ De n env
theorem ds_while {c : Expr} {body : List Stmt} {C : TDT} {B : TDS} (hp : PassesOwn (model X.prog X.w) X.A X.env X.xe) (hc : PT X c (tDT F C)) (hb : PSs X body (sD F B)) : PS X (.While c body [] pos) (sD F (dWhile C B)) := PS.imp (ps_while hp hc hb) (by
  rintro De σ H ⟨N, env, Dd, f, ⟨n, hT⟩, ok⟩
  refine ⟨fun m σ' H' => ∃ N' env', FOk F N' σ' H' env' ∧ Evo N H N' H' ∧ whileN C B F.ex Dd m env', ⟨n, N, env, f, .refl, hT⟩, ?_⟩
  rintro m σ' H' ⟨N', env', f', ev, q⟩
  cases m with
  | zero => exact q.elim
  | succ m =>
    refine ⟨N', env', _, f', q, fun k H2 e2 q2 => ?_⟩
    have ev2 : Evo N H N' H2 := ev.trans (.of f'.n e2)
    by_cases hk : k = true
    · subst hk
      rw [if_pos rfl] at q2
      refine iteT ?_
      refine ⟨fun σ3 H3 => ∃ N3 env3, FOk F N3 σ3 H3 env3 ∧ Evo N H N3 H3 ∧ whileN C B F.ex Dd m env3, fun σ3 H3 q3 => ⟨m, Nat.lt_succ_self m, q3⟩, N', env', _, f'.ext' e2, q2, ?_⟩
      exact ⟨fun N1 σ1 H1 env1 f1 v1 q1 => ⟨N1, env1, f1, ev2.trans v1, q1⟩, ok.rt, fun N1 σ1 H1 env1 f1 v1 q1 => ok.nx _ _ _ _ f1 (ev2.trans v1) q1, fun N1 σ1 H1 env1 f1 v1 q1 => ⟨N1, env1, f1, ev2.trans v1, q1⟩⟩
    · rw [Bool.not_eq_true] at hk
      subst hk
      rw [if_neg Bool.false_ne_true] at q2
      exact iteF (ok.nx _ _ _ _ (f'.ext' e2) ev2 q2))
end
end DL
set_option Elab.async false
set_option linter.all false
set_option maxRecDepth 100000
namespace DL
open PySem PySem.Spec L2
open PyProof.Rows hiding St

/-! ### defs, where no text is being written -/
structure RoomG (k : Nat) (A : Around) : Prop where
  r : Room k A
  g : A.guards = some []
theorem RoomG.mono {j k : Nat} {A : Around} (h : RoomG k A) (l : j ≤ k) : RoomG j A := ⟨h.r.mono l, h.g⟩
theorem units80 {k : Nat} {A : Around} (r : Room k A) : A.units + 80 < cLine := by have := r.un; omega
theorem guards_deeper {A : Around} {env : Env} (h : A.guards = some []) : (A.deeper env).guards = some [] := by
  first | exact h | (simpa [Around.deeper] using h)
structure FnG (P : Program) (w : World) (K : PySem.W.Frag) (mg : Str → Option Value) (base : Heap) (CX : CXT) (k : Nat) (f : Addr) (fd : FuncData) (ps : List Str) (sp : Sp) : Prop where
  len : ∀ vs H Q E, sp vs H Q E → vs.length = ps.length
  run : ∀ (A : Around) (outer : List Env) (s : Shared) (H : Hp) (args : Args) (us : List Value) (vs : List V) (Q : VK) (E : XK), RoomG k A → Env0 P w K mg base A outer s H → BindsTo s fd args (ps.zip us) → Vals vs us → sp vs H Q E →
    codeAny (model P w) A (.call (.ref f) args) (CR CX outer P w H s Q E) s
section
variable {P : Program} {w : World} {K : PySem.W.Frag} {mg : Str → Option Value} {base : Heap} {CX : CXT} {k : Nat} {f : Addr} {fd : FuncData} {N ps : List Str} {sp : Sp}
theorem FnG.mono {j : Nat} (G : FnG P w K mg base CX j f fd ps sp) (h : j ≤ k) : FnG P w K mg base CX k f fd ps sp :=
  ⟨G.len, fun A outer s H args us vs Q E hr => G.run A outer s H args us vs Q E (hr.mono h)⟩
theorem FnG.imp {sp' : Sp} (G : FnG P w K mg base CX k f fd ps sp) (h : ∀ vs H Q E, sp' vs H Q E → sp vs H Q E) : FnG P w K mg base CX k f fd ps sp' :=
  ⟨fun vs H Q E q => G.len _ _ _ _ (h _ _ _ _ q), fun A outer s H args us vs Q E hr he hb hv hs => G.run A outer s H args us vs Q E hr he hb hv (h _ _ _ _ hs)⟩
theorem FnOk.toG (G : FnOk P w K mg base CX k f fd ps sp) : FnG P w K mg base CX k f fd ps sp :=
  ⟨G.len, fun A outer s H args us vs Q E hr => G.run A outer s H args us vs Q E hr.r⟩
/-- a def's body, by a term for each entry -/
theorem fng_of {x qual : Str} {params : Arguments} {body : List Stmt} {scope : Scope} {dvs : List V} {kws : List (Str × V)} (F : FunD K x qual params body scope dvs kws f fd) (S : FnScope N ps scope)
    (len : ∀ vs H Q E, sp vs H Q E → vs.length = ps.length)
    (hb : ∀ (cdv : Value) (A : Around) (outer : List Env) (s : Shared) (H : Hp) (vs : List V) (Q : VK) (E : XK), RoomG k (A.deeper (envOfC qual scope s.heap.objs.size f cdv)) → sp vs H Q E →
      ∃ t, PSs (cxOf CX P w K mg base N qual scope f cdv A outer s H E) body t ∧ t { nx := fun _ H' => Q .non H', rt := Q } (start N vs) H) : FnG P w K mg base CX (k + 1) f fd ps sp := by
  obtain ⟨oc, od, dV, kV, doc, pm, an, cdv, ct, osl, efd, lk, hcd, _, _⟩ := F.ex
  subst efd
  constructor
  · exact len
  intro A outer s H args us vs Q E room e0 bnd rel wish
  have lenv := len _ _ _ _ wish
  have still : ∀ b o, base.get? b = some o → s.heap.get? b = some o := fun b o e => (e0.bs b o e).1
  have inK : K.In s.heap := e0.mod.kin.keeps still
  have noLim : s.heap.NoLimit := e0.mod.nolimit.keeps still
  have kinds : ∀ y ∈ ps.zip us, scope.names.lookup y.1 = some .local ∨ (scope.names.lookup y.1 = some .cell ∧ ((cellsFrom (s.heap.objs.size + 1) scope.names []).lookup y.1).isSome = true) := by
    rintro ⟨n, v⟩ hy
    have hn := (List.of_mem_zip hy).1
    exact (S.par n hn).elim .inl fun q => .inr ⟨q, PySem.W.cellsFrom_some _ _ _ (.inl q)⟩
  refine codeAny_call_function room.r.depth (inK _ _ lk) rfl S.co S.gen rfl (PySem.W.codeRec_of inK hcd) (bnd _ _ _ _ ?_)
  refine wpAny_newFunctionEnv_cells S.kind kinds ?_
  intro env ee s1 inc
  subst ee
  refine ⟨noLim.keeps inc.toInCall.keep, codeAny_func ?_⟩
  obtain ⟨t, pt, tq⟩ := hb cdv A outer s H vs Q E ⟨room.r.deeper _, guards_deeper room.g⟩ wish
  have start_ok := inv_start (CX := CX) (E := E) (qual := qual) (f := f) (cd := cdv) S room.r.hd e0 lenv rel inc
  refine wpAny_mono (pt.run [] s1 (start N vs) H _ start_ok tq) ?_ fun e s' z => z
  intro fl s' z
  cases fl with
  | next =>
    obtain ⟨σ', H', J, q⟩ := z
    exact ⟨V.non, H', J.os, J.bare, J.base, J.hok, rfl, q⟩
  | ret u =>
    obtain ⟨v, σ', H', J, rv, q⟩ := z
    exact ⟨v, H', J.os, J.bare, J.base, J.hok, rv, q⟩
  | brk =>
    obtain ⟨_, _, _, q⟩ := z
    cases q
  | cont =>
    obtain ⟨_, _, _, q⟩ := z
    cases q
end

section
variable {X : Cx} {CX : CXT} {k : Nat} {f : Addr} {fd : FuncData} {ps ks : List Str} {sp : Sp} {dvs : List V} {ds : List Value} {E : XK} {x : Str} {p pos : Pos} {e : Expr} {es : List Expr} {kws : List Keyword} {t tk : TA}
theorem wish_of {pins : List (Addr × Obj)} {σ : L2.St} {H : Hp} {s : Shared} {Q : VK} (hx : Passes CX X E) (I : Inv X pins σ H s) {r : Result} {s' : Shared} (h : CR CX X.stack X.prog X.w H s Q E r s') :
    match r with
    | .ok (.ret u) => EP X pins σ Q u s'
    | .ok _ => False
    | .error e => X.xe e s' := by
  cases r with
  | error e => exact hx pins σ H s e s' I h
  | ok fl =>
    cases fl with
    | ret u => exact I.after h
    | next => exact h
    | brk => exact h
    | cont => exact h
theorem run_g {pins : List (Addr × Obj)} {σ : L2.St} {H : Hp} {s : Shared} {Q : VK} {us : List Value} {vs : List V} (G : FnG X.prog X.w X.K X.mg X.base CX k f fd ps sp) (hr : RoomG k X.A) (hb : Binds X.K fd ps ds) (hd : Vals dvs ds) (hx : Passes CX X E)
    (I : Inv X pins σ H s) (r : Vals vs us) (h : sp (vs ++ dvs) H Q E) : wpAny (model X.prog X.w) X.A (call (.ref f) us) (EP X pins σ Q) X.xe s := by
  have rr : Vals (vs ++ dvs) (us ++ ds) := r.append hd
  have hl : (us ++ ds).length = ps.length := rr.length.symm.trans (G.len _ _ _ _ h)
  refine wpAny_call (codeAny_mono (G.run X.A X.stack s H ⟨us, []⟩ (us ++ ds) (vs ++ dvs) Q E hr I.env0 (hb s us I.kIn hl) rr h) fun r s' hq => ?_)
  have z := wish_of hx I hq
  cases r with
  | error e => exact z
  | ok fl => cases fl <;> exact z
theorem pe_callG (G : FnG X.prog X.w X.K X.mg X.base CX k f fd ps sp) (hr : RoomG k X.A) (hg : Gl X x) (hm : X.mg x = some (.ref f)) (hk : PySem.W.keepIn X.K (.ref f) = true) (hb : Binds X.K fd ps ds) (hd : Vals dvs ds) (hx : Passes CX X E)
    (ha : PA X (e :: es) t) (hdb : (x == ("__debug__" : Str)) = false := by decide) (he : starEach (e :: es) X.env = (false, eval e X.env) :: starEach es X.env := by rfl) (hpl : (backTo pos (starEach es X.env)).any (·.1) = false := by rfl) :
    PE X (.Call (.Name x p) (e :: es) [] pos) (tCall sp dvs E t) := ⟨fun pins s σ H Q I h =>
  wpAny_Call_Name_kw (ld_glob I hg hm (PySem.W.callWith_K (h₀ := X.base) I.ok.mod.kin hk (thn (ha.run pos pins s σ H _ I h) fun us s1 ⟨vs, H1, I1, r, q⟩ => ⟨I1.kIn, run_g G hr hb hd hx I1 r q⟩) he hpl) hdb)⟩
/-- keywords: all parameters, or some behind positional ones -/
theorem run_gk {pins : List (Addr × Obj)} {σ : L2.St} {H : Hp} {s : Shared} {Q : VK} {us ws : List Value} {vs zs : List V} {g : List Value → List Value → List Value} {gV : List V → List V → List V} (G : FnG X.prog X.w X.K X.mg X.base CX k f fd ps sp) (hr : RoomG k X.A) (hb : KBinds X.K fd ps ks g gV) (hx : Passes CX X E)
    (I : Inv X pins σ H s) (r : Vals vs us) (rz : Vals zs ws) (h : sp (gV vs zs) H Q E) : wpAny (model X.prog X.w) X.A (call (.ref f) us (ks.zip ws)) (EP X pins σ Q) X.xe s := by
  have rr := hb.rel r rz
  have hl : (g us ws).length = ps.length := rr.length.symm.trans (G.len _ _ _ _ h)
  refine wpAny_call (codeAny_mono (G.run X.A X.stack s H ⟨us, ks.zip ws⟩ (g us ws) (gV vs zs) Q E hr I.env0 (hb.to s us ws I.kIn hl) rr h) fun r s' hq => ?_)
  have z := wish_of hx I hq
  cases r with
  | error e => exact z
  | ok fl => cases fl <;> exact z
end

/-! ### promises over data -/
abbrev TF := XW → List D → (D → Prop) → Prop
/-- an exception below: its class, its own dict -/
def XRep (K : PySem.W.Frag) (Z : Zn) (N : Addr → Prop) (H : Hp) (x : DX) (c : Value) (od : Option Addr) : Prop :=
  c = .ref x.cls ∧ ((x.fs = [] ∧ od = none) ∨ ∃ d vs, od = some d ∧ ¬ N d ∧ H d = some (.xd ((x.fs.map (·.1)).zip vs)) ∧ Reps K Z N H (x.fs.map (·.2)) vs)
structure BOk (Z : Zn) (B : Addr → Prop) (H : Hp) : Prop where
  deck : DeckOk Z H
  zin : ∀ p, InZ Z p → B p
  all : ∀ p, B p → ∃ o, H p = some o
def spD (K : PySem.W.Frag) (n : Nat) (T : TF) : Sp := fun vs H Q E => ∃ (Z : Zn) (B : Addr → Prop) (ds : List D) (Qd : D → Prop) (Ed : DX → Prop), BOk Z B H ∧ Reps K Z B H ds vs ∧ ds.length = n ∧ T Ed ds Qd ∧
  (∀ v H' d, Ext Z H H' → Rep K Z B H' d v → Qd d → Q v H') ∧ ∀ x c od H', Ext Z H H' → XRep K Z B H' x c od → Ed x → E c od H'
theorem NOk.bok {F : FP} {N : Addr → Prop} {H : Hp} (n : NOk F N H) : BOk F.Z N H := ⟨n.deck, n.z, n.all⟩
def startD (n : Nat) (ds : List D) : SE := ds.map Slot.d ++ List.replicate (n - ds.length) .un
theorem start_ok {K : PySem.W.Frag} {Z : Zn} {B : Addr → Prop} {H : Hp} {ds : List D} {vs : List V} {Ed : DX → Prop} {N : List Str} (b : BOk Z B H) (r : Reps K Z B H ds vs) : FOk ⟨K, Z, B, H, Ed⟩ B (start N vs) H (startD N.length ds) where
  n := ⟨b.deck, .refl, fun _ h => h, b.zin, b.all, fun _ h n => (n h).elim⟩
  len := by simp [L2.start, startD, r.length]
  slot := fun i s h => by
    unfold startD at h
    by_cases hi : i < ds.length
    · rw [List.getElem?_append_left (by simpa using hi), List.getElem?_map] at h
      obtain ⟨d, hd⟩ : ∃ d, ds[i]? = some d := ⟨_, List.getElem?_eq_getElem hi⟩
      rw [hd] at h
      cases h
      obtain ⟨v, h1, h2⟩ := r.get hd
      refine ⟨v, ?_, h2⟩
      unfold L2.start
      rw [List.getElem?_append_left (by simpa [← r.length] using hi), List.getElem?_map, h1]
      rfl
    · rw [List.getElem?_append_right (by simpa using Nat.le_of_not_lt hi), List.getElem?_replicate] at h
      split at h
      · cases h; trivial
      · cases h
  apart := fun i j p xs ys _ h => by
    exfalso
    have : Slot.own xs ∈ startD N.length ds := List.mem_of_getElem? h
    unfold startD at this
    rcases List.mem_append.mp this with q | q
    · obtain ⟨d, _, e⟩ := List.mem_map.mp q; cases e
    · cases (List.mem_replicate.mp q).2
/-- what a def does with data: its body's reading -/
def tfOf (n : Nat) (T : TDS) : TF := fun ξ ds Q => T ξ { nx := fun _ => Q .non, rt := Q } (startD n ds)
section
variable {P : Program} {w : World} {K : PySem.W.Frag} {mg : Str → Option Value} {base : Heap} {k : Nat} {f : Addr} {fd : FuncData} {N ps : List Str}
/-- a def that lets nothing out -/
theorem fng_data {x qual : Str} {params : Arguments} {body : List Stmt} {scope : Scope} {dvs : List V} {kws : List (Str × V)} {T : TDS} (Fd : FunD K x qual params body scope dvs kws f fd) (S : FnScope N ps scope)
    (hb : ∀ (cdv : Value) (A : Around) (outer : List Env) (s : Shared) (H : Hp) (E : XK) (F : FP), F.K = K → F.ex = (fun _ => False) → RoomG k (A.deeper (envOfC qual scope s.heap.objs.size f cdv)) →
      PSs (cxOf CX0 P w K mg base N qual scope f cdv A outer s H E).nox body (sD F T)) : FnG P w K mg base CX0 (k + 1) f fd ps (spD K ps.length fun _ ds Q => tfOf N.length T (fun _ => False) ds Q) := by
  refine fng_of Fd S ?_ ?_
  · rintro vs H Q E ⟨Z, B, ds, Qd, Ed, b, r, hl, _⟩
    rw [← r.length, hl]
  · rintro cdv A outer s H vs Q E room ⟨Z, B, ds, Qd, Ed, b, r, hl, hT, hq, _⟩
    refine ⟨_, (hb cdv A outer s H E ⟨K, Z, B, H, fun _ => False⟩ rfl rfl room).nox, ?_⟩
    exact ⟨B, _, _, start_ok b r, hT, ⟨fun N' σ' H' env' f' _ q => hq _ _ _ f'.n.ext rep_non q, fun v H' d e r' q => hq v H' d e r' q, fun _ _ _ _ _ _ q => q.elim, fun _ _ _ _ _ _ q => q.elim⟩⟩
end

/-! ### calls over data -/
section
variable {X : Cx} {F : FP} {k n : Nat} {f : Addr} {fd : FuncData} {ps ks : List Str} {x : Str} {p pos : Pos} {e : Expr} {es : List Expr} {kws : List Keyword} {Tas Tks : TDA} {T : TF}
def dCall (n : Nat) (T : TF) (Ta : TDA) : TDE := fun ξ env Q => Ta ξ env fun ds => ds.length = n ∧ T (fun _ => False) ds Q
theorem tCall_imp (hK : F.K = X.K) : ∀ σ H Q, tD F (dCall n T Tas) σ H Q → tCall (spD X.K n T) [] E0 (tDA F Tas) σ H Q := by
  rintro σ H Q ⟨N, env, Qd, f, hT, k⟩
  refine ⟨N, env, _, f, hT, fun vs H1 ds e1 r1 q1 => ?_⟩
  have n1 := (f.ext' e1).n
  refine ⟨F.Z, N, ds, Qd, _, n1.bok, by rw [List.append_nil, ← hK]; exact r1, q1.1, q1.2, fun v H2 d e2 r2 q2 => k v H2 d (e1.trans e2) (by rw [hK]; exact r2) q2, fun _ _ _ _ _ _ z => z⟩
/-- f(e, ..): all parameters, by position -/
theorem d_call (G : FnG X.prog X.w X.K X.mg X.base CX0 k f fd ps (spD X.K n T)) (hK : F.K = X.K) (hr : RoomG k X.A) (hg : Gl X x) (hm : X.mg x = some (.ref f)) (hk : PySem.W.keepIn X.K (.ref f) = true) (hb : Binds X.K fd ps [])
    (ha : PA X (e :: es) (tDA F Tas)) (hdb : (x == ("__debug__" : Str)) = false := by decide) (he : starEach (e :: es) X.env = (false, eval e X.env) :: starEach es X.env := by rfl) (hpl : (backTo pos (starEach es X.env)).any (·.1) = false := by rfl) :
    PE X (.Call (.Name x p) (e :: es) [] pos) (tD F (dCall n T Tas)) :=
  PE.imp (pe_callG G hr hg hm hk hb .nil pass0 ha hdb he hpl) (tCall_imp hK)

/-! ### calls by name -/
theorem PK.imp {t t' : TA} (h : PK X kws t) (hi : ∀ σ H Q, t' σ H Q → t σ H Q) : PK X kws t' := ⟨fun pos pins s σ H Q I hw => h.run pos pins s σ H Q I (hi _ _ _ hw)⟩
theorem dk_nil : PK X [] (tDA F dNil) := PK.imp pk_nil (by
  rintro σ H Q ⟨N, env, Qd, f, hT, k⟩
  exact k [] H [] Ext.refl rfl hT)
theorem dk_cons {nm : Option Str} {kpos : Pos} {Ta : TDE} {Tr : TDA} (ha : PE X e (tD F Ta)) (hr : PK X kws (tDA F Tr)) : PK X (⟨nm, e, kpos⟩ :: kws) (tDA F (dCons Ta Tr)) := PK.imp (pk_cons ha hr) tCons_imp
/-- the values in the parameters' order -/
def perm {α : Type} : List Nat → List α → List α
  | [], _ => []
  | i :: r, l => match l[i]? with
    | some x => x :: perm r l
    | none => perm r l
theorem perm_vals {vs : List V} {us : List Value} (r : Vals vs us) : ∀ idx : List Nat, Vals (perm idx vs) (perm idx us)
  | [] => .nil
  | i :: idx => by
    unfold perm
    cases q : vs[i]? with
    | none => rw [r.none_of q]; exact perm_vals r idx
    | some v =>
      obtain ⟨u, h1, h2⟩ := r.get q
      rw [h1]
      exact .cons h2 (perm_vals r idx)
theorem perm_reps {K : PySem.W.Frag} {Z : Zn} {N : Addr → Prop} {H : Hp} {ds : List D} {vs : List V} (r : Reps K Z N H ds vs) : ∀ idx : List Nat, Reps K Z N H (perm idx ds) (perm idx vs)
  | [] => rfl
  | i :: idx => by
    unfold perm
    cases q : ds[i]? with
    | none =>
      have : vs[i]? = none := by
        rw [List.getElem?_eq_none_iff] at q ⊢
        rw [← r.length]; exact q
      rw [this]; exact perm_reps r idx
    | some d =>
      obtain ⟨v, h1, h2⟩ := r.get q
      rw [h1]
      exact ⟨v, _, rfl, h2, perm_reps r idx⟩
def KB (fd : FuncData) (ps ks : List Str) (idx : List Nat) : Prop := ∀ (s : Shared) (ws : List Value), ws.length = ks.length → BindsTo s fd ⟨[], ks.zip ws⟩ (ps.zip (perm idx ws))
def tCallP (m : Nat) (sp : Sp) (idx : List Nat) (E : XK) (tk : TA) : TE := fun σ H Q => tk σ H fun zs H2 => zs.length = m ∧ sp (perm idx zs) H2 Q E
theorem run_gp {CX : CXT} {sp : Sp} {E : XK} {idx : List Nat} {pins : List (Addr × Obj)} {σ : L2.St} {H : Hp} {s : Shared} {Q : VK} {ws : List Value} {zs : List V} (G : FnG X.prog X.w X.K X.mg X.base CX k f fd ps sp) (hr : RoomG k X.A) (hb : KB fd ps ks idx) (hx : Passes CX X E)
    (I : Inv X pins σ H s) (rz : Vals zs ws) (hl : zs.length = ks.length) (h : sp (perm idx zs) H Q E) : wpAny (model X.prog X.w) X.A (call (.ref f) [] (ks.zip ws)) (EP X pins σ Q) X.xe s := by
  refine wpAny_call (codeAny_mono (G.run X.A X.stack s H ⟨[], ks.zip ws⟩ (perm idx ws) (perm idx zs) Q E hr I.env0 (hb s ws (rz.length.symm.trans hl)) (perm_vals rz idx) h) fun r s' hq => ?_)
  have z := wish_of hx I hq
  cases r with
  | error e => exact z
  | ok fl => cases fl <;> exact z
theorem pe_callP {CX : CXT} {sp : Sp} {E : XK} {idx : List Nat} {tk : TA} (G : FnG X.prog X.w X.K X.mg X.base CX k f fd ps sp) (hr : RoomG k X.A) (hg : Gl X x) (hm : X.mg x = some (.ref f)) (hk : PySem.W.keepIn X.K (.ref f) = true) (hb : KB fd ps ks idx) (hx : Passes CX X E)
    (hkw : PK X kws tk) (hall : (backToKw pos (keywordEach kws X.env)).all (·.1.isSome) = true := by rfl) (hks : (backToKw pos (keywordEach kws X.env)).filterMap (·.1) = ks := by rfl) (hdb : (x == ("__debug__" : Str)) = false := by decide)
    (hpl : ((backTo pos (starEach [] X.env)).any (·.1) || (backToKw pos (keywordEach kws X.env)).any (·.1.isNone)) = false := by rfl) : PE X (.Call (.Name x p) [] kws pos) (tCallP ks.length sp idx E tk) := ⟨fun pins s σ H Q I h => by
  refine wpAny_Call_Name_kw (ld_glob I hg hm (PySem.W.callWith_KW0 (h₀ := X.base) I.ok.mod.kin hk hall ?_ hpl) hdb)
  refine thn (hkw.run pos pins s σ H _ I h) ?_
  rintro ws s2 ⟨zs, H2, I2, rz, l2, q2⟩
  rw [hks]
  exact ⟨I2.kIn, run_gp G hr hb hx I2 rz l2 q2⟩⟩
def dCallK (m n : Nat) (idx : List Nat) (T : TF) (Tk : TDA) : TDE := fun ξ env Q => Tk ξ env fun ds => (ds.length = m ∧ (perm idx ds).length = n) ∧ T (fun _ => False) (perm idx ds) Q
theorem d_callK {idx : List Nat} {m : Nat} (G : FnG X.prog X.w X.K X.mg X.base CX0 k f fd ps (spD X.K n T)) (hK : F.K = X.K) (hr : RoomG k X.A) (hg : Gl X x) (hm : X.mg x = some (.ref f)) (hk : PySem.W.keepIn X.K (.ref f) = true) (hb : KB fd ps ks idx)
    (hkw : PK X kws (tDA F Tks)) (hall : (backToKw pos (keywordEach kws X.env)).all (·.1.isSome) = true := by rfl) (hks : (backToKw pos (keywordEach kws X.env)).filterMap (·.1) = ks := by rfl) (hdb : (x == ("__debug__" : Str)) = false := by decide)
    (hpl : ((backTo pos (starEach [] X.env)).any (·.1) || (backToKw pos (keywordEach kws X.env)).any (·.1.isNone)) = false := by rfl) (hml : ks.length = m := by rfl) : PE X (.Call (.Name x p) [] kws pos) (tD F (dCallK m n idx T Tks)) :=
  PE.imp (pe_callP G hr hg hm hk hb pass0 hkw hall hks hdb hpl) (by
  subst hml
  rintro σ H Q ⟨N, env, Qd, f, hT, k⟩
  refine ⟨N, env, _, f, hT, fun vs H1 ds e1 r1 q1 => ⟨r1.length.symm.trans q1.1.1, ?_⟩⟩
  have n1 := (f.ext' e1).n
  refine ⟨F.Z, N, perm idx ds, Qd, _, n1.bok, by rw [← hK]; exact perm_reps r1 idx, q1.1.2, q1.2, fun v H2 d e2 r2 q2 => k v H2 d (e1.trans e2) (by rw [hK]; exact r2) q2, fun _ _ _ _ _ _ z => z⟩)
end

/-! ### comprehensions -/
section
variable {X : Cx} {F : FP}
def wipeD (env : SE) : List Nat → SE
  | [] => env
  | v :: vs => (wipeD env vs).set v .un
theorem FOk.un {N : Addr → Prop} {σ : L2.St} {H : Hp} {env : SE} (f : FOk F N σ H env) (i : Nat) : FOk F N (σ.set i none) H (env.set i .un) where
  n := f.n
  len := by rw [List.length_set, List.length_set]; exact f.len
  slot := fun j s h => by
    by_cases hj : i = j
    · subst hj
      have hl : i < env.length := by
        have := (List.getElem?_eq_some_iff.mp h).1
        rwa [List.length_set] at this
      rw [List.getElem?_set_self hl] at h
      cases h
      trivial
    · rw [List.getElem?_set_ne hj] at h
      rw [List.getElem?_set_ne hj]
      exact f.slot j s h
  apart := fun j k p xs ys hjk h1 h2 h3 h4 => by
    have o : ∀ {j : Nat} {xs : List D}, (env.set i .un)[j]? = some (.own xs) → i ≠ j ∧ env[j]? = some (.own xs) := fun {j xs} h => by
      by_cases hj : i = j
      · subst hj
        have hl : i < env.length := by
          have := (List.getElem?_eq_some_iff.mp h).1
          rwa [List.length_set] at this
        rw [List.getElem?_set_self hl] at h
        cases h
      · rw [List.getElem?_set_ne hj] at h
        exact ⟨hj, h⟩
    obtain ⟨n1, h1⟩ := o h1
    obtain ⟨n2, h2⟩ := o h2
    rw [List.getElem?_set_ne n1] at h3
    rw [List.getElem?_set_ne n2] at h4
    exact f.apart j k p xs ys hjk h1 h2 h3 h4
theorem FOk.wipe {N : Addr → Prop} {σ : L2.St} {H : Hp} {env : SE} (f : FOk F N σ H env) : ∀ vs : List Nat, FOk F N (L2.wipe σ vs) H (wipeD env vs)
  | [] => f
  | v :: vs => (f.wipe vs).un v
/-- another wish -/
theorem FOk.wish {N : Addr → Prop} {σ : L2.St} {H : Hp} {env : SE} (f : FOk F N σ H env) (ex : DX → Prop) : FOk { F with ex := ex } N σ H env := ⟨⟨f.n.deck, f.n.ext, f.n.sub, f.n.zin, f.n.all, f.n.new⟩, f.len, fun i s h => by
  have q := f.slot i s h
  cases s <;> exact q, f.apart⟩
theorem FOk.unwish {N : Addr → Prop} {σ : L2.St} {H : Hp} {env : SE} {ex : DX → Prop} (f : FOk { F with ex := ex } N σ H env) : FOk F N σ H env := ⟨⟨f.n.deck, f.n.ext, f.n.sub, f.n.zin, f.n.all, f.n.new⟩, f.len, fun i s h => by
  have q := f.slot i s h
  cases s <;> exact q, f.apart⟩
/-- another list of the def's own comes -/
theorem FOk.with {N : Addr → Prop} {σ : L2.St} {H : Hp} {env : SE} (f : FOk F N σ H env) {p : Addr} {o : HO} (hp : H p = none) : FOk F (fun q => N q ∨ q = p) σ (upd H p o) env := by
  have e := f.n.lay (o := o) hp
  have f1 := f.ext' e
  have h0 : F.H0 p = none := by
    cases q : F.H0 p with
    | none => rfl
    | some u =>
      by_cases z : InZ F.Z p
      · obtain ⟨w, h⟩ := f.n.all p (f.n.z p z)
        rw [hp] at h; cases h
      · have := f.n.ext.keep p u z q
        rw [hp] at this; cases this
  have nb : ¬ F.B p := fun z => f.n.fresh hp (f.n.sub p z)
  refine ⟨⟨f1.n.deck, f1.n.ext, fun q h => .inl (f1.n.sub q h), f1.n.zin, fun q h => ?_, fun q h n => ?_⟩, f1.len, fun i s h => ?_, f1.apart⟩
  · rcases h with h | rfl
    · exact f1.n.all q h
    · exact ⟨o, upd_same⟩
  · rcases h with h | rfl
    · exact f1.n.new q h n
    · exact h0
  · have q := f.slot i s h
    have mv : ∀ r u, ¬ N r → H r = some u → upd H p o r = some u ∧ ¬ (N r ∨ r = p) := fun r u n h => by
      have ne := ne_of_none h hp
      exact ⟨by rw [upd_ne ne]; exact h, fun z => z.elim n ne⟩
    cases s with
    | un => trivial
    | d x =>
      obtain ⟨v, h1, h2⟩ := q
      exact ⟨v, h1, Rep.mono mv x v h2⟩
    | own xs =>
      obtain ⟨r, vs, h1, h2, h3, h4, h5⟩ := q
      exact ⟨r, vs, h1, .inl h2, h3, by rw [upd_ne (ne_of_none h4 hp)]; exact h4, Reps.mono mv xs vs h5⟩
/-- over the items: the target, the test, the element -/
def lcD (G : TDG) (tt : TDT) (te : TDE) (env : SE) : List D → (List D → Prop) → Prop
  | [], Q => Q []
  | d :: ds, Q => G d env fun env' => tt (fun _ => False) env' fun b => if b = true then te (fun _ => False) env' fun y => lcD G tt te env ds fun ys => Q (y :: ys) else lcD G tt te env ds Q
def dYes : TDT := fun _ _ Q => Q true
theorem dts_nil : PTs X [] (tDT F dYes) := ⟨fun pins s σ H Q I hw => pts_nil.run pins s σ H Q I (by
  obtain ⟨N, env, Qd, f, hT, k⟩ := hw
  exact k _ _ Ext.refl hT)⟩
theorem dts_one {c : Expr} {t : TDT} (h : PT X c (tDT F t)) : PTs X [c] (tDT F t) := pts_one h
end
end DL
set_option Elab.async false
set_option linter.all false
set_option maxRecDepth 100000
namespace DL
open PySem PySem.Spec L2
open PyProof.Rows hiding St
section
variable {X : Cx} {F : FP} {Ta : TDE} {Tas : TDA}
theorem FOk.with' {N : Addr → Prop} {σ : L2.St} {H H' : Hp} {env : SE} (f : FOk F N σ H env) {p : Addr} {o : HO} (hp : H p = none) (e : Ext F.Z H H') (ho : H' p = some o) : FOk F (fun q => N q ∨ q = p) σ H' env := by
  have f1 := f.ext' e
  have w := (f.with (o := o) hp).n
  refine ⟨⟨f1.n.deck, f1.n.ext, w.sub, w.zin, fun q h => ?_, w.new⟩, f1.len, fun i s h => ?_, f1.apart⟩
  · rcases h with h | rfl
    · exact f1.n.all q h
    · exact ⟨o, ho⟩
  · have q := f.slot i s h
    have mv : ∀ r u, ¬ N r → H r = some u → H' r = some u ∧ ¬ (N r ∨ r = p) := fun r u n h =>
      ⟨e.keep r u (fun z => n (f.n.z r z)) h, fun z => z.elim n (ne_of_none h hp)⟩
    cases s with
    | un => trivial
    | d x =>
      obtain ⟨v, h1, h2⟩ := q
      exact ⟨v, h1, Rep.mono mv x v h2⟩
    | own xs =>
      obtain ⟨r, vs, h1, h2, h3, h4, h5⟩ := q
      exact ⟨r, vs, h1, .inl h2, h3, e.keep r _ (fun z => h3 (f.n.zin r z)) h4, Reps.mono mv xs vs h5⟩
/-- what a comprehension has made so far -/
structure LcAt (F : FP) (N : Addr → Prop) (H1 : Hp) (D : Addr) (G : TDG) (tt : TDT) (te : TDE) (env : SE) (all : List DL.D) (Qd : DL.D → Prop) (i : Nat) (H' : Hp) : Prop where
  ext : Ext F.Z H1 H'
  at_ : ∃ (acc : List V) (ds : List DL.D), H' D = some (.lst acc) ∧ acc.length ≤ i ∧ Reps F.K F.Z (fun q => N q ∨ q = D) H' ds acc ∧ lcD G tt te env (all.drop i) fun ys => Qd (.lst (ds ++ ys))
end
end DL
namespace DL
open PySem PySem.Spec L2
open PyProof.Rows hiding St
section
variable {X : Cx} {F : FP} {Ta : TDE} {Tas : TDA} {N : Addr → Prop} {σ : L2.St} {H1 H' : Hp} {env : SE} {A : Addr} {tt : TDT} {te : TDE} {all : List D} {Qd : D → Prop} {j : Nat}
abbrev FP.calm (F : FP) : FP := { F with ex := fun _ => False }
theorem lc_start (n : NOk F N H1) (hA : H1 A = none) {G : TDG} (h : lcD G tt te env all fun ys => Qd (.lst ys)) : LcAt F N H1 A G tt te env all Qd 0 (upd H1 A (.lst [])) :=
  ⟨n.lay hA, [], [], upd_same, Nat.le_refl _, rfl, by simpa using h⟩
theorem lc_turn (f : FOk F N σ H1 env) (hA : H1 A = none) (hz : all.length ≤ sizeLine) {i : Nat} {d : D} {x : V} (hd : all[i]? = some d) (r : Rep F.K F.Z N H1 d x) (L : LcAt F N H1 A (dgName j) tt te (wipeD env [j]) all Qd i H') :
    gName j x (L2.wipe σ [j]) H' fun σ2 H2 => L2.wipe σ2 [j] = L2.wipe σ [j] ∧ tDT F.calm tt σ2 H2 fun b H3 =>
      if b = true then tD F.calm te σ2 H3 fun y H4 => ∃ acc, H4 A = some (.lst acc) ∧ acc.length < sizeLine ∧ LcAt F N H1 A (dgName j) tt te (wipeD env [j]) all Qd (i + 1) (upd H4 A (.lst (acc ++ [y]))) else LcAt F N H1 A (dgName j) tt te (wipeD env [j]) all Qd (i + 1) H3 := by
  obtain ⟨ext, acc, ds, h1, h2, h3, h4⟩ := L
  obtain ⟨hi, e⟩ := List.getElem?_eq_some_iff.mp hd
  rw [List.drop_eq_getElem_cons hi, e] at h4
  have f1 : FOk F (fun q => N q ∨ q = A) (L2.wipe σ [j]) H' (wipeD env [j]) := (f.with' hA ext h1).wipe [j]
  have mv : ∀ r u, ¬ N r → H1 r = some u → H' r = some u ∧ ¬ (N r ∨ r = A) := fun r u n h => ⟨ext.keep r u (fun z => n (f.n.z r z)) h, fun z => z.elim n (ne_of_none h hA)⟩
  have r1 : Rep F.K F.Z (fun q => N q ∨ q = A) H' d x := Rep.mono mv d x r
  have nz : ∀ p, InZ F.Z p → p ≠ A := fun p z e => by
    obtain ⟨o, q⟩ := f.n.all p (f.n.z p z)
    rw [e, hA] at q; cases q
  refine ⟨by simp [L2.wipe, List.set_set], ?_⟩
  refine ⟨_, _, _, (f1.set j r1).wish _, h4, fun b H3 e3 q3 => ?_⟩
  have x3 := ext.trans e3
  have a3 : H3 A = some (.lst acc) := e3.keep A _ (fun z => nz A z rfl) h1
  have f3 := f1.ext' e3
  by_cases hb : b = true
  · subst hb
    rw [if_pos rfl] at q3
    refine iteT ?_
    refine ⟨_, _, _, ((f1.set j r1).ext' e3).wish _, q3, fun y H4 dy e4 ry q4 => ?_⟩
    have a4 : H4 A = some (.lst acc) := e4.keep A _ (fun z => nz A z rfl) a3
    have x4 := x3.trans e4
    refine ⟨acc, a4, by omega, ⟨fun p o n h => ?_, fun dk => ?_⟩, acc ++ [y], ds ++ [dy], upd_same, by simp; omega, ?_, ?_⟩
    · rw [upd_ne (ne_of_none h hA)]
      exact x4.keep p o n h
    · intro a l ez
      obtain ⟨xs, m, c, k1, k2, k3⟩ := x4.deck dk a l ez
      exact ⟨xs, m, c, by rw [upd_ne (nz a ⟨a, l, ez, .inl rfl⟩)]; exact k1, by rw [upd_ne (nz l ⟨a, l, ez, .inr rfl⟩)]; exact k2, k3⟩
    · have mv4 : ∀ r u, ¬ (N r ∨ r = A) → H4 r = some u → upd H4 A (.lst (acc ++ [y])) r = some u ∧ ¬ (N r ∨ r = A) := fun r u n h => ⟨by rw [upd_ne (fun z => n (.inr z))]; exact h, n⟩
      have h4' : Reps F.K F.Z (fun q => N q ∨ q = A) H4 ds acc := (h3.ext e3 f1.n.z).ext e4 f1.n.z
      exact (Reps.mono mv4 _ _ h4').snoc (Rep.mono mv4 _ _ ry)
    · have : (fun ys => Qd (.lst (ds ++ [dy] ++ ys))) = fun ys => Qd (.lst (ds ++ dy :: ys)) := by
        funext ys; rw [List.append_assoc]; rfl
      rw [this]
      exact q4
  · rw [Bool.not_eq_true] at hb
    subst hb
    rw [if_neg Bool.false_ne_true] at q3
    refine iteF ?_
    exact ⟨x3, acc, ds, a3, by omega, h3.ext e3 f1.n.z, q3⟩
theorem lc_end (f : FOk F N σ H1 env) (hA : H1 A = none) {G : TDG} {H0 : Hp} {Q : VK} (e : Ext F.Z H0 H1) (k : ∀ v H' d, Ext F.Z H0 H' → Rep F.K F.Z N H' d v → Qd d → Q v H') {n : Nat} (hn : all.length = n) (L : LcAt F N H1 A G tt te (wipeD env [j]) all Qd n H') : Q (.ref A) H' := by
  obtain ⟨ext, acc, ds, h1, h2, h3, h4⟩ := L
  rw [← hn, List.drop_length] at h4
  have h4 : Qd (.lst (ds ++ [])) := h4
  rw [List.append_nil] at h4
  exact k _ _ (.lst ds) (e.trans ext) ⟨A, acc, rfl, f.n.fresh hA, h1, h3.less fun p z => .inl z⟩ h4
def dLc (T : TDE) (j : Nat) (tt : TDT) (te : TDE) : TDE := fun ξ env Q => T ξ env fun d => match d with
  | .lst ds => ds.length ≤ sizeLine ∧ lcD (dgName j) tt te (wipeD env [j]) ds fun ys => Q (.lst ys)
  | _ => False
def dLcT (T : TDE) (j : Nat) (tt : TDT) (te : TDE) : TDE := fun ξ env Q => T ξ env fun d => match d with
  | .tup ds => ds.length ≤ sizeLine ∧ lcD (dgName j) tt te (wipeD env [j]) ds fun ys => Q (.lst ys)
  | _ => False
def dLcR (T : TDA) (j : Nat) (tt : TDT) (te : TDE) : TDE := fun ξ env Q => T ξ env fun ds => match ds with
  | [.int n] => (0 ≤ n ∧ n ≤ sizeLine) ∧ lcD (dgName j) tt te (wipeD env [j]) (intsD 0 n.toNat) fun ys => Q (.lst ys)
  | _ => False
theorem lc_imp : ∀ σ H Q, tD F (dLc Ta j tt te) σ H Q → tLc (iList F.K (tD F Ta)) (gName j) (tDT F.calm tt) (tD F.calm te) [j] σ H Q := by
  rintro σ H Q ⟨N, env, Qd, f, hT, k⟩
  refine ⟨N, env, _, f, hT, fun v H1 d e1 r q => ?_⟩
  cases d <;> first | exact q.elim | skip
  rename_i ds
  obtain ⟨a, vs, rfl, na, ra, rs⟩ := r
  have f1 := f.ext' e1
  refine ⟨a, rfl, ⟨vs, SqL.of ra⟩, fun A hA => ?_⟩
  refine lc_list (K := F.K) (a := a) (xs := vs) (fun i H' => LcAt F N H1 A (dgName j) tt te (wipeD env [j]) ds Qd i H') (lc_start f1.n hA q.2) (fun i H' _ L => SqL.of (L.ext.keep a _ (fun z => na (f.n.z a z)) ra)) (fun i x H' hx L => ?_) (fun H' L => lc_end f1 hA e1 k rs.length L)
  obtain ⟨d, hd, rd⟩ := rs.getV hx
  exact lc_turn f1 hA q.1 hd rd L
theorem lcT_imp : ∀ σ H Q, tD F (dLcT Ta j tt te) σ H Q → tLc (iTup F.K (tD F Ta)) (gName j) (tDT F.calm tt) (tD F.calm te) [j] σ H Q := by
  rintro σ H Q ⟨N, env, Qd, f, hT, k⟩
  refine ⟨N, env, _, f, hT, fun v H1 d e1 r q => ?_⟩
  cases d <;> first | exact q.elim | skip
  rename_i ds
  obtain ⟨a, vs, rfl, ra, rs⟩ := r
  have f1 := f.ext' e1
  refine ⟨a, rfl, ⟨vs, sqt_of ra⟩, fun A hA => ?_⟩
  refine lc_tup (K := F.K) (a := a) (xs := vs) (fun i H' => LcAt F N H1 A (dgName j) tt te (wipeD env [j]) ds Qd i H') (lc_start f1.n hA q.2) (fun i H' _ L => ?_) (fun i x H' hx L => ?_) (fun H' L => lc_end f1 hA e1 k rs.length L)
  · refine sqt_of (N := N) ?_
    rcases ra with ⟨n, ra⟩ | ra
    · exact .inl ⟨n, L.ext.keep a _ (fun z => n (f.n.z a z)) ra⟩
    · exact .inr ra
  obtain ⟨d, hd, rd⟩ := rs.getV hx
  exact lc_turn f1 hA q.1 hd rd L
theorem lcR_imp : ∀ σ H Q, tD F (dLcR Tas j tt te) σ H Q → tLc (iRng1 (tDA F Tas)) (gName j) (tDT F.calm tt) (tD F.calm te) [j] σ H Q := by
  rintro σ H Q ⟨N, env, Qd, f, hT, k⟩
  refine ⟨N, env, _, f, hT, fun vs H1 ds e1 r q => ?_⟩
  split at q
  · rename_i n
    obtain ⟨v, _, rfl, r1, r2⟩ := r
    cases r2
    have f1 := f.ext' e1
    have hs : (sizeLine : Nat) < 2 ^ 62 := by rw [sizeLine_eq]; decide
    refine ⟨n, by rw [show v = _ from r1], by omega, by omega, fun A hA => ?_⟩
    refine lc_range (lo := 0) (n := n.toNat) (fun i H' => LcAt F N H1 A (dgName j) tt te (wipeD env [j]) (intsD 0 n.toNat) Qd i H') (lc_start f1.n hA q.2) (fun i H' hi L => ?_) (fun H' L => lc_end f1 hA e1 k ints_len L)
    exact lc_turn f1 hA (by rw [ints_len]; omega) (ints_get hi) rep_int L
  · exact q.elim
variable {e elt iter a : Expr} {ifs : List Expr} {scope : Scope} {own : List (Str × Nat)} {pos p pos' : Pos} {tg : Expr}
theorem d_lc (hK : F.K = X.K) (hc : X.calm = true) (hN : X.N.Nodup) (hi : PE X iter (tD F Ta)) (ok : BlkOk X.N X.env.scope scope own) (hv : own.map (·.2) = [j])
    (hg : ∀ (s : Shared) (H : Hp) (C : Addr) (cl : List (Str × Addr)) (fp : List Addr), PG (X.blk s H scope (compEnvC scope cl C X.env) fp) tg (gName j)) (ht : ∀ (s : Shared) (H : Hp) (C : Addr) (cl : List (Str × Addr)) (fp : List Addr), PTs (X.blk s H scope (compEnvC scope cl C X.env) fp) ifs (tDT F.calm tt))
    (he : ∀ (s : Shared) (H : Hp) (C : Addr) (cl : List (Str × Addr)) (fp : List Addr), PE (X.blk s H scope (compEnvC scope cl C X.env) fp) elt (tD F.calm te)) (hs : ∀ x, foldedSetIterable iter X.env x = pure x := by intro _; rfl) :
    PE X (.ListComp elt [⟨tg, iter, ifs, 0⟩] scope pos) (tD F (dLc Ta j tt te)) := by
  have z := pe_lc (pos := pos) hc hN (pi_list hi) ok hg ht he hs
  rw [hv] at z
  exact PE.imp z (by rw [← hK]; exact lc_imp)
theorem d_lcT (hK : F.K = X.K) (hc : X.calm = true) (hN : X.N.Nodup) (hi : PE X iter (tD F Ta)) (ok : BlkOk X.N X.env.scope scope own) (hv : own.map (·.2) = [j])
    (hg : ∀ (s : Shared) (H : Hp) (C : Addr) (cl : List (Str × Addr)) (fp : List Addr), PG (X.blk s H scope (compEnvC scope cl C X.env) fp) tg (gName j)) (ht : ∀ (s : Shared) (H : Hp) (C : Addr) (cl : List (Str × Addr)) (fp : List Addr), PTs (X.blk s H scope (compEnvC scope cl C X.env) fp) ifs (tDT F.calm tt))
    (he : ∀ (s : Shared) (H : Hp) (C : Addr) (cl : List (Str × Addr)) (fp : List Addr), PE (X.blk s H scope (compEnvC scope cl C X.env) fp) elt (tD F.calm te)) (hs : ∀ x, foldedSetIterable iter X.env x = pure x := by intro _; rfl) :
    PE X (.ListComp elt [⟨tg, iter, ifs, 0⟩] scope pos) (tD F (dLcT Ta j tt te)) := by
  have z := pe_lc (pos := pos) hc hN (pi_tup hi) ok hg ht he hs
  rw [hv] at z
  exact PE.imp z (by rw [← hK]; exact lcT_imp)
theorem d_lcR (hK : F.K = X.K) (hc : X.calm = true) (hN : X.N.Nodup) (hgl : Gl X "range") (hm : X.mg "range" = none) (ha : PA X [a] (tDA F Tas)) (ok : BlkOk X.N X.env.scope scope own) (hv : own.map (·.2) = [j])
    (hg : ∀ (s : Shared) (H : Hp) (C : Addr) (cl : List (Str × Addr)) (fp : List Addr), PG (X.blk s H scope (compEnvC scope cl C X.env) fp) tg (gName j)) (ht : ∀ (s : Shared) (H : Hp) (C : Addr) (cl : List (Str × Addr)) (fp : List Addr), PTs (X.blk s H scope (compEnvC scope cl C X.env) fp) ifs (tDT F.calm tt))
    (he : ∀ (s : Shared) (H : Hp) (C : Addr) (cl : List (Str × Addr)) (fp : List Addr), PE (X.blk s H scope (compEnvC scope cl C X.env) fp) elt (tD F.calm te)) (hsa : starEach [a] X.env = [(false, eval a X.env)] := by rfl) (hs : ∀ x, foldedSetIterable (.Call (.Name "range" p) [a] [] pos') X.env x = pure x := by intro _; rfl) :
    PE X (.ListComp elt [⟨tg, .Call (.Name "range" p) [a] [] pos', ifs, 0⟩] scope pos) (tD F (dLcR Tas j tt te)) := by
  have z := pe_lc (pos := pos) hc hN (pi_range1 hgl hm ha hsa) ok hg ht he hs
  rw [hv] at z
  exact PE.imp z lcR_imp
end
end DL
set_option Elab.async false
set_option linter.all false
set_option maxRecDepth 100000
namespace DL
open PySem PySem.Spec L2
open PyProof.Rows hiding St
section
variable {X : Cx} {F : FP} {Ta Tb : TDE} {Tas : TDA} {e a b c : Expr} {es : List Expr} {pos : Pos} {st : Stmt}

theorem PS.or {t u : TS} (h1 : PS X st t) (h2 : PS X st u) : PS X st (fun De σ H => t De σ H ∨ u De σ H) := ⟨fun pins s σ H De I h => h.elim (h1.run pins s σ H De I) (h2.run pins s σ H De I)⟩
theorem PE.or {t u : TE} (h1 : PE X e t) (h2 : PE X e u) : PE X e (fun σ H Q => t σ H Q ∨ u σ H Q) := ⟨fun pins s σ H Q I h => h.elim (h1.run pins s σ H Q I) (h2.run pins s σ H Q I)⟩
/-- for x in name: a list or a tuple -/
def seqD : Option Slot → Option (List D)
  | some (.d (.tup ds)) => some ds
  | some (.d (.lst ds)) => some ds
  | _ => none
def dForV (i : Nat) (G : TDG) (B : TDS) : TDS := fun ξ De env => match seqD env[i]? with
  | some ds => forD G B ξ De ds env
  | none => False
theorem seqD_of {o : Option Slot} {ds : List D} (h : seqD o = some ds) : o = some (.d (.tup ds)) ∨ o = some (.d (.lst ds)) := by
  unfold seqD at h
  split at h
  · cases h; exact .inl rfl
  · cases h; exact .inr rfl
  · cases h
theorem ds_forV {i : Nat} {tg iter : Expr} {body : List Stmt} {G : TDG} {B : TDS} (hK : F.K = X.K) (hp : PassesOwn (model X.prog X.w) X.A X.env X.xe) (hc : X.calm = true) (hi : PE X iter (tVar i)) (hg : PG X tg (gD F G)) (hb : PSs X body (sD F B))
    (hs : ∀ x, foldedSetIterable iter X.env x = pure x := by intro _; rfl) : PS X (.For tg iter body [] pos) (sD F (dForV i G B)) :=
  PS.imp (PS.or (ds_for (pos := pos) hK hp hc (d_var hi) hg hb hs) (ds_forT (pos := pos) hK hp hc (d_var hi) hg hb hs)) (by
  rintro De σ H ⟨N, env, Dd, f, hT, ok⟩
  unfold dForV at hT
  split at hT
  · rename_i ds hd
    rcases seqD_of hd with e | e
    · refine .inr ⟨N, env, Dd, f, ?_, ok⟩
      unfold dForT dVar
      rw [e]
      exact hT
    · refine .inl ⟨N, env, Dd, f, ?_, ok⟩
      unfold dFor dVar
      rw [e]
      exact hT
  · exact hT.elim)
def dLcV (i j : Nat) (tt : TDT) (te : TDE) : TDE := fun ξ env Q => match seqD env[i]? with
  | some ds => ds.length ≤ sizeLine ∧ lcD (dgName j) tt te (wipeD env [j]) ds fun ys => Q (.lst ys)
  | none => False
theorem d_lcV {i j : Nat} {tt : TDT} {te : TDE} {elt iter tg : Expr} {ifs : List Expr} {scope : Scope} {own : List (Str × Nat)} (hK : F.K = X.K) (hc : X.calm = true) (hN : X.N.Nodup) (hi : PE X iter (tVar i)) (ok : BlkOk X.N X.env.scope scope own) (hv : own.map (·.2) = [j])
    (hg : ∀ (s : Shared) (H : Hp) (C : Addr) (cl : List (Str × Addr)) (fp : List Addr), PG (X.blk s H scope (compEnvC scope cl C X.env) fp) tg (gName j)) (ht : ∀ (s : Shared) (H : Hp) (C : Addr) (cl : List (Str × Addr)) (fp : List Addr), PTs (X.blk s H scope (compEnvC scope cl C X.env) fp) ifs (tDT F.calm tt))
    (he : ∀ (s : Shared) (H : Hp) (C : Addr) (cl : List (Str × Addr)) (fp : List Addr), PE (X.blk s H scope (compEnvC scope cl C X.env) fp) elt (tD F.calm te)) (hs : ∀ x, foldedSetIterable iter X.env x = pure x := by intro _; rfl) :
    PE X (.ListComp elt [⟨tg, iter, ifs, 0⟩] scope pos) (tD F (dLcV i j tt te)) :=
  PE.imp (PE.or (d_lc (pos := pos) hK hc hN (d_var hi) ok hv hg ht he hs) (d_lcT (pos := pos) hK hc hN (d_var hi) ok hv hg ht he hs)) (by
  rintro σ H Q ⟨N, env, Qd, f, hT, k⟩
  unfold dLcV at hT
  split at hT
  · rename_i ds hd
    rcases seqD_of hd with e | e
    · refine .inr ⟨N, env, Qd, f, ?_, k⟩
      unfold dLcT dVar
      rw [e]
      exact hT
    · refine .inl ⟨N, env, Qd, f, ?_, k⟩
      unfold dLc dVar
      rw [e]
      exact hT
  · exact hT.elim)

/-! ### isinstance(x, T) -/
def gIs (T : PyT) : G1 := fun x Q => typed x = true ∧ Q (.bl (isD T x))
theorem d_isi {T : PyT} {p p2 : Pos} {ty : Str} (hK : F.K = X.K) (hg : Gl X "isinstance") (hm : X.mg "isinstance" = none) (hg2 : Gl X ty) (hm2 : X.mg ty = none) (hv2 : bootBuiltins ty = some (.type T.name)) (ha : PE X a (tD F Ta)) (hn2 : ty ≠ "__name__" := by decide) (hd2 : (ty == ("__debug__" : Str)) = false := by decide)
    (he : starEach [a, .Name ty p2] X.env = (false, eval a X.env) :: starEach [.Name ty p2] X.env := by rfl) (he2 : starEach [.Name ty p2] X.env = (false, eval (.Name ty p2) X.env) :: starEach [] X.env := by rfl) (hpl : (backTo pos (starEach [.Name ty p2] X.env)).any (·.1) = false := by rfl) :
    PE X (.Call (.Name "isinstance" p) [a, .Name ty p2] [] pos) (tD F (dUn (gIs T) Ta)) :=
  PE.imp (pe_callB call_isi hg hm (by decide +kernel) (pa_cons ha (pa_cons (pe_bltn (v := .ty T.name) hg2 hm2 hv2 rfl hn2 hd2) pa_nil he2) he) (by decide) (by decide) he hpl) (by
  rintro σ H Q ⟨N, env, Qd, f, hT, k⟩
  refine ⟨N, env, _, f, hT, fun v H1 d e1 r q => ?_⟩
  obtain ⟨t, h3, h4⟩ := tyx_of q.1 r
  rw [hK] at h3 h4
  exact ⟨v, _, _, _, _, rfl, .ty _, h3, h4 T, k _ _ _ e1 rep_bl q.2⟩)

/-! ### repr -/
def showOk (d : D) : Prop := plain d = true ∧ (toP d).showable = true ∧ (toP d).hasDict = false ∧ (toP d).depth ≤ 64 ∧ ((toP d).shown).length ≤ sizeLine
def gRepr : GA := fun xs Q => match xs with
  | [d] => showOk d ∧ Q (.str (toP d).shown)
  | _ => False
def rRepr (K : PySem.W.Frag) : List V → Hp → VK → Prop := fun vs H Q => ∃ v d, vs = [v] ∧ Dp K H v d ∧ d.showable = true ∧ d.hasDict = false ∧ d.depth ≤ 64 ∧ d.shown.length ≤ sizeLine ∧ Q (.str d.shown) H
theorem cr_repr (hg : X.A.guards = some []) (hu : X.A.units + 80 < cLine) : CallR X (.builtin "repr") (rRepr X.K) := by
  intro pins s σ H vs us Q I r h
  obtain ⟨v, d, rfl, dp, h1, h2, h3, h4, q⟩ := h
  obtain ⟨u, rfl, rv⟩ := vals1 r
  obtain ⟨as, rd⟩ := Dp.reads I d v u dp rv
  cases rd with
  | none => exact PySem.P.repr_of_none ⟨.str _, H, I.tok _, ⟨_, rfl⟩, q⟩
  | bool b => exact PySem.P.repr_of_bool ⟨.str _, H, I.tok _, ⟨_, rfl⟩, q⟩
  | int i t => exact PySem.P.repr_of_int (of_decide_eq_true h1) ⟨.str _, H, I.tok _, ⟨_, rfl⟩, q⟩
  | str x t => exact PySem.P.repr_of_str ⟨.str _, H, I.tok _, ⟨_, rfl⟩, q⟩ h4
  | list e1 e2 e3 e4 =>
    exact repr_of_reads' (h₀ := s.heap) (.list e1 e2 e3 e4) h1 (fun z => by rw [h2] at z; cases z) hg (by omega) (fun _ _ z => z) (fun h' u tk hk => ⟨.str _, H, I.kept (t' := tk) hk, ⟨_, rfl⟩, q⟩) h4
  | tuple e1 e2 e3 e4 =>
    exact repr_of_reads' (h₀ := s.heap) (.tuple e1 e2 e3 e4) h1 (fun z => by rw [h2] at z; cases z) hg (by omega) (fun _ _ z => z) (fun h' u tk hk => ⟨.str _, H, I.kept (t' := tk) hk, ⟨_, rfl⟩, q⟩) h4
  | dict e1 e2 e3 e4 e5 => cases h2
theorem cd_repr : CallD F (rRepr F.K) gRepr := ⟨by
  intro N H vs ds Qd Q n r h k
  unfold gRepr at h
  split at h
  · rename_i d
    obtain ⟨v, r, rfl, h1, h2⟩ := r
    cases h2
    obtain ⟨⟨p, s1, s2, s3, s4⟩, q⟩ := h
    exact ⟨v, toP d, rfl, Rep.dp d v p h1, s1, s2, s3, s4, k _ _ _ Ext.refl rep_str q⟩
  · exact h.elim⟩
theorem d_repr {p : Pos} (hK : F.K = X.K) (hgd : X.A.guards = some []) (hu : X.A.units + 80 < cLine) (hg : Gl X "repr") (hm : X.mg "repr" = none) (ha : PA X (e :: es) (tDA F Tas))
    (he : starEach (e :: es) X.env = (false, eval e X.env) :: starEach es X.env := by rfl) (hpl : (backTo pos (starEach es X.env)).any (·.1) = false := by rfl) : PE X (.Call (.Name "repr" p) (e :: es) [] pos) (tD F (dCB gRepr Tas)) := by
  have z := cd_repr (F := F)
  rw [hK] at z
  exact d_callB z (cr_repr hgd hu) hg hm (by decide +kernel) ha (by decide) (by decide) he hpl

/-! ### isqrt -/
def gIsqrt : GA := fun xs Q => match xs with
  | [.int i] => (0 ≤ i ∧ i.toNat.log2 < 13500) ∧ ∀ r : Int, 0 ≤ r → r * r ≤ i → i < (r + 1) * (r + 1) → Q (.int r)
  | _ => False
def rIsqrt : List V → Hp → VK → Prop := fun vs H Q => ∃ i : Int, vs = [.int i] ∧ (0 ≤ i ∧ i.toNat.log2 < 13500) ∧ ∀ r : Int, 0 ≤ r → r * r ≤ i → i < (r + 1) * (r + 1) → Q (.int r) H
theorem cr_isqrt : CallR X (.builtin "math.isqrt") rIsqrt := by
  intro pins s σ H vs us Q I r h
  obtain ⟨i, rfl, ⟨h0, h1⟩, q⟩ := h
  obtain ⟨u, rfl, t, rfl⟩ := vals1 r
  have z := PySem.W.mg_run_isqrt i t (by omega) (by omega) (by omega)
  obtain ⟨z1, z2⟩ := Float64.isqrt_spec i.toNat
  refine call_function_meets PySem.W.MGF.kind_isqrt PySem.W.MGF.plain_isqrt PySem.W.MGF.entry_isqrt (PySem.W.MGF.args_isqrt _) z.meets ?_
  refine ⟨.int _, H, I.tok _, ⟨_, rfl⟩, q _ (Int.natCast_nonneg _) ?_ ?_⟩
  · have : ((Float64.isqrt i.toNat * Float64.isqrt i.toNat : Nat) : Int) ≤ (i.toNat : Int) := Int.ofNat_le.mpr z1
    rw [Int.toNat_of_nonneg h0, Int.natCast_mul] at this
    exact this
  · have : ((i.toNat : Nat) : Int) < (((Float64.isqrt i.toNat + 1) * (Float64.isqrt i.toNat + 1) : Nat) : Int) := Int.ofNat_lt.mpr z2
    rw [Int.toNat_of_nonneg h0, Int.natCast_mul] at this
    exact this
theorem cd_isqrt : CallD F rIsqrt gIsqrt := ⟨by
  intro N H vs ds Qd Q n r h k
  unfold gIsqrt at h
  split at h
  · obtain ⟨v, r, rfl, h1, h2⟩ := r
    cases h2
    exact ⟨_, by rw [show v = _ from h1], h.1, fun r h1 h2 h3 => k _ _ _ Ext.refl rep_int (h.2 r h1 h2 h3)⟩
  · exact h.elim⟩
theorem d_callBf {x : Str} {p : Pos} {bid : String} {r : List V → Hp → VK → Prop} {g : GA} (hg' : CallD F r g) (hc : CallR X (.builtin bid) r) (hg : Gl X x) (hm : X.mg x = some (.builtin bid)) (ha : PA X (e :: es) (tDA F Tas)) (hdb : (x == ("__debug__" : Str)) = false := by decide)
    (he : starEach (e :: es) X.env = (false, eval e X.env) :: starEach es X.env := by rfl) (hpl : (backTo pos (starEach es X.env)).any (·.1) = false := by rfl) : PE X (.Call (.Name x p) (e :: es) [] pos) (tD F (dCB g Tas)) :=
  PE.imp (pe_callBfun hc hg hm ha hdb he hpl) (tCB_imp hg')

/-! ### two or three names at once -/
theorem ds_par {i j : Nat} {x y : Str} {px py pt : Pos} {kt k2 pt2} (hc : X.calm = true) (hN : X.N.Nodup) (hi : X.N[i]? = some x) (hj : X.N[j]? = some y) (hij : i ≠ j)
    (hx : X.env.scope.names.lookup x = some .local) (hy : X.env.scope.names.lookup y = some .local) (ha : PA X [a, b] (tDA F Tas)) (hw : swappedStores [.Tuple [.Name x px, .Name y py] kt pt] (.Tuple [a, b] k2 pt2) X.env = pure (some [x, y]) := by rfl)
    (hs : swapsWithSole [.Tuple [.Name x px, .Name y py] kt pt] (.Tuple [a, b] k2 pt2) pos.line X.env = pure false := by rfl) : PS X (.Assign [.Tuple [.Name x px, .Name y py] kt pt] (.Tuple [a, b] k2 pt2) pos) (sD F (dPar i j Tas)) :=
  PS.imp (ps_par hc hN hi hj hij hx hy ha hw hs) tPar_imp
theorem ds_par3 {i j l : Nat} {x y z : Str} {px py pz pt : Pos} {kt k2 pt2} (hc : X.calm = true) (hN : X.N.Nodup) (hi : X.N[i]? = some x) (hj : X.N[j]? = some y) (hl : X.N[l]? = some z) (hij : i ≠ j) (hil : i ≠ l) (hjl : j ≠ l)
    (hx : X.env.scope.names.lookup x = some .local) (hy : X.env.scope.names.lookup y = some .local) (hz : X.env.scope.names.lookup z = some .local) (ha : PA X [a, b, c] (tDA F Tas))
    (hw : swappedStores [.Tuple [.Name x px, .Name y py, .Name z pz] kt pt] (.Tuple [a, b, c] k2 pt2) X.env = pure (some [x, y, z]) := by rfl)
    (hs : swapsWithSole [.Tuple [.Name x px, .Name y py, .Name z pz] kt pt] (.Tuple [a, b, c] k2 pt2) pos.line X.env = pure false := by rfl) : PS X (.Assign [.Tuple [.Name x px, .Name y py, .Name z pz] kt pt] (.Tuple [a, b, c] k2 pt2) pos) (sD F (dPar3 i j l Tas)) :=
  PS.imp (ps_par3 hc hN hi hj hl hij hil hjl hx hy hz ha hw hs) tPar3_imp
end
theorem kb_of {K : PySem.W.Frag} {x qual : Str} {params : Arguments} {body : List Stmt} {scope : Scope} {kws : List (Str × V)} {f : Addr} {fd : FuncData} {ps ks : List Str} {idx : List Nat} (F : FunD K x qual params body scope [] kws f fd)
    (h : ∀ (kV doc pm : Value) (an : Option Addr) (cdv ct : Value) (ws : List Value), ws.length = ks.length → bindArgs (PySem.W.fnOf x qual params body scope .none kV doc pm an cdv ct) ⟨[], ks.zip ws⟩ = pure (ps.zip (perm idx ws))) : KB fd ps ks idx := by
  obtain ⟨oc, od, dV, kV, doc, pm, an, cdv, ct, osl, rfl, lk, hcd, hD, hK⟩ := F.ex
  rcases hD with ⟨_, rfl⟩ | ⟨e, _⟩
  · exact fun s ws hl => .of_eq (h kV doc pm an cdv ct ws hl)
  · exact absurd rfl e
end DL
set_option Elab.async false
set_option linter.all false
set_option maxRecDepth 100000
namespace DL
open PySem PySem.Spec L2
open PyProof.Rows hiding St

/-! ### a text of nines, and the number that it tells -/
def nine (n : Nat) : Str := ⟨(List.replicate n ((Str.ofString "9").cps)).foldl (· ++ ·) #[]⟩
theorem nine_fold (n : Nat) : ∀ acc : Array Nat, ((List.replicate n ((Str.ofString "9").cps)).foldl (· ++ ·) acc).toList = acc.toList ++ List.replicate n 57 := by
  induction n with
  | zero => intro acc; simp
  | succ n ih =>
    intro acc
    rw [List.replicate_succ, List.foldl_cons, ih]
    have e : (Str.ofString "9").cps = #[57] := by decide +kernel
    rw [e, Array.toList_append, List.append_assoc]
    rfl
theorem nine_cps (n : Nat) : (nine n).cps.toList = List.replicate n 57 := by
  unfold nine
  rw [nine_fold]
  rfl
theorem nine_len (n : Nat) : (nine n).length = n := by
  have : (nine n).cps.size = (nine n).cps.toList.length := Array.length_toList.symm
  show (nine n).cps.size = n
  rw [this, nine_cps, List.length_replicate]
open NumText in
theorem nines_digits (n : Nat) : ∀ (acc : Array Nat) (b : Bool), (List.replicate (n + 1) 57).foldlM (step 10) (acc, b) = some (acc ++ (List.replicate (n + 1) 9).toArray, true) := by
  induction n with
  | zero =>
    intro acc b
    have e : step 10 (acc, b) 57 = some (acc.push 9, true) := rfl
    rw [List.replicate_succ, List.foldlM_cons, e]
    simp
  | succ n ih =>
    intro acc b
    have e : step 10 (acc, b) 57 = some (acc.push 9, true) := rfl
    rw [List.replicate_succ, List.foldlM_cons, e]
    show (List.replicate (n + 1) 57).foldlM (step 10) (acc.push 9, true) = _
    rw [ih]
    congr 2
    rw [List.replicate_succ (n := n + 1)]
    apply Array.ext'
    simp
theorem nines_value (n : Nat) : ∀ acc : Nat, (List.replicate n 9).foldl (fun acc d => acc * 10 + d) acc + 1 = (acc + 1) * 10 ^ n := by
  induction n with
  | zero => intro acc; simp
  | succ n ih =>
    intro acc
    rw [List.replicate_succ, List.foldl_cons, ih, Nat.pow_succ]
    rw [Nat.mul_comm (10 ^ n) 10, ← Nat.mul_assoc]
    congr 1
    omega
open NumText in
theorem nine_int (n : Nat) (h : n + 1 ≤ 4300) : intText? (nine (n + 1)) = some ((10 : Int) ^ (n + 1) - 1) := by
  have hall : ((nine (n + 1)).cps.all (· < 128)) = true := by
    rw [← Array.all_toList, nine_cps, List.all_eq_true]
    intro x hx
    rw [(List.mem_replicate.mp hx).2]
    rfl
  have e1 : numTextOf (nine (n + 1)) = List.replicate (n + 1) 57 := by
    unfold numTextOf
    rw [if_pos hall, nine_cps]
  have e2 : numSeenOf (nine (n + 1)) = List.replicate (n + 1) 57 := by
    unfold numSeenOf
    rw [e1, List.takeWhile_replicate]
    rfl
  have e3 : (List.replicate (n + 1) 57).dropWhile blank = List.replicate (n + 1) 57 := by
    rw [List.replicate_succ, List.dropWhile_cons]
    rfl
  have e4 : sign (List.replicate (n + 1) 57) = (false, List.replicate (n + 1) 57) := by
    rw [List.replicate_succ]
    rfl
  have e5 : core (List.replicate (n + 1) 57) = List.replicate (n + 1) 57 := by
    unfold core
    rw [e3, e4]
    show ((List.replicate (n + 1) 57).reverse.dropWhile blank).reverse = _
    rw [List.reverse_replicate, e3, List.reverse_replicate]
  unfold intText?
  rw [e1, e2, e3, e4, e5]
  rw [if_pos (by simp)]
  have e6 : digits? 10 (List.replicate (n + 1) 57) = some (List.replicate (n + 1) 9).toArray := by
    unfold digits?
    rw [nines_digits]
    simp
  rw [e6]
  show (if (List.replicate (n + 1) 9).toArray.size ≤ 4300 then some (worth false (List.replicate (n + 1) 9).toArray) else none) = _
  rw [if_pos (by simpa using h)]
  congr 1
  unfold worth
  rw [if_neg Bool.false_ne_true]
  have v := nines_value (n + 1) 0
  rw [List.foldl_toArray]
  have : ((List.replicate (n + 1) 9).foldl (fun acc d => acc * 10 + d) 0 : Nat) = 10 ^ (n + 1) - 1 := by omega
  rw [this]
  have p : 1 ≤ 10 ^ (n + 1) := Nat.one_le_pow _ _ (by decide)
  rw [Int.natCast_sub p]
  simp
section
variable {X : Cx} {F : FP} {Ta Tb : TDE} {Tas : TDA} {e a b c : Expr} {es : List Expr} {pos : Pos} {st : Stmt}
def rNine : R2 := fun x y H Q => ∃ n : Int, x = .str "9" ∧ y = .int n ∧ (2 ≤ n ∧ n ≤ 10000) ∧ Q (.str (nine n.toNat)) H
theorem op_nine : OpR X (binaryOp .Mult) rNine := by
  intro pins s σ H x y v u Q I rx ry h
  obtain ⟨n, rfl, rfl, ⟨h1, h2⟩, q⟩ := h
  obtain ⟨t, rfl⟩ := rx
  obtain ⟨t', rfl⟩ := ry
  have l1 : ("9" : Str).length = 1 := by decide +kernel
  have c1 : (n == 1 || ("9" : Str).length == 0) = false := by
    rw [l1]
    have : (n == 1) = false := by rw [beq_eq_false_iff_ne]; omega
    rw [this]; rfl
  refine PySem.P.mul_str ?_ ?_ ?_ ?_
  · rw [decide_eq_false (by omega), decide_eq_false (by omega)]; rfl
  · intro _ _ z
    rw [l1] at z
    have hd : 10000 ≤ (2 ^ 63 - 1) / n := by
      rw [Int.le_ediv_iff_mul_le (by omega)]
      omega
    omega
  · intro _ _
    unfold Builtin.Str.tooLong
    rw [l1, sizeLine_eq]
    exact decide_eq_false (by omega)
  · rw [if_neg (by omega), if_neg (by rw [c1]; exact Bool.false_ne_true)]
    have hl : (nine n.toNat).length ≤ sizeLine := by rw [nine_len, sizeLine_eq]; omega
    exact ⟨hl, ⟨.str (nine n.toNat), H, I.tok _, ⟨_, rfl⟩, q⟩⟩
def gNines : G1 := fun x Q => match x with
  | .int n => (2 ≤ n ∧ n ≤ 640) ∧ Q (.int (10 ^ n.toNat - 1))
  | _ => False
theorem d_nines {k : Nat} {p p1 p2 : Pos} {n : Expr} (hg : Gl X "int") (hm : X.mg "int" = none) (hn : PE X n (tD F Ta)) (he : starEach [.BinOp (.Constant (.str "9") k p1) .Mult n p2] X.env = (false, eval (.BinOp (.Constant (.str "9") k p1) .Mult n p2) X.env) :: starEach [] X.env := by rfl)
    (hpl : (backTo pos (starEach [] X.env)).any (·.1) = false := by rfl) : PE X (.Call (.Name "int" p) [.BinOp (.Constant (.str "9") k p1) .Mult n p2] [] pos) (tD F (dUn gNines Ta)) :=
  PE.imp (pe_callTy call_int_str hg hm (by decide +kernel) (pa_cons (pe_op op_nine pe_str hn) pa_nil he) (by decide) (by decide) he hpl) (by
  rintro σ H Q ⟨N, env, Qd, f, hT, k⟩
  refine ⟨N, env, _, f, hT, fun v H1 d e1 r q => ?_⟩
  cases d <;> first | exact q.elim | skip
  rename_i n
  obtain ⟨⟨h1, h2⟩, q⟩ := q
  refine ⟨n, rfl, r, ⟨h1, by omega⟩, ?_⟩
  obtain ⟨m, hm⟩ : ∃ m, n.toNat = m + 1 := ⟨n.toNat - 1, by omega⟩
  refine ⟨nine n.toNat, _, rfl, ?_, by rw [nine_len]; omega, k _ _ _ e1 rep_int q⟩
  rw [hm]
  exact nine_int m (by omega))
end
end DL
set_option Elab.async false
set_option linter.all false
set_option maxRecDepth 100000
namespace DL
open PySem PySem.Spec L2
open PyProof.Rows hiding St
/-! ### the deck -/
/-- a draw: some number below the given one -/
def tf_draw : TF := fun _ ds Q => match ds with
  | [.deck, .int n] => (0 < n ∧ n < 1000000000) ∧ ∀ r : Int, 0 ≤ r → r < n → Q (.int r)
  | _ => False
theorem draw_reps {K : PySem.W.Frag} {Z : Zn} {B : Addr → Prop} {H : Hp} {ds : List D} {vs : List V} {Qd : D → Prop} (r : Reps K Z B H ds vs) (h : tf_draw (fun _ => False) ds Qd) :
    ∃ a l n, Z = some (a, l) ∧ vs = [.ref a, .int n] ∧ (0 < n ∧ n < 1000000000) ∧ ∀ r : Int, 0 ≤ r → r < n → Qd (.int r) := by
  unfold tf_draw at h
  split at h
  · obtain ⟨v, _, rfl, ⟨a, l, hz, rfl⟩, w, _, rfl, rfl, h4⟩ := r
    cases h4
    exact ⟨a, l, _, hz, rfl, h⟩
  · exact h.elim
theorem kvs_m {l : Addr} {m k : Int} : valV (deckKvs l m k) (.inr ("mixed" : Str)) = some (.int m) := rfl
theorem kvs_l {l : Addr} {m k : Int} : valV (deckKvs l m k) (.inr ("left" : Str)) = some (.ref l) := rfl
theorem kvs_d {l : Addr} {m k : Int} : valV (deckKvs l m k) (.inr ("draws" : Str)) = some (.int k) := rfl
theorem kvs_put {l : Addr} {m k j : Int} : putK (deckKvs l m k) (.inr ("draws" : Str)) (.int j) = deckKvs l m j := rfl
theorem dg_m {H : Hp} {a l : Addr} {m k : Int} (h : H a = some (.dK (deckKvs l m k))) : DGet H a (.str "mixed") (some (.int m)) := kvs_m (l := l) (m := m) (k := k) ▸ DGet.k (k := .inr "mixed") h
theorem dg_l {H : Hp} {a l : Addr} {m k : Int} (h : H a = some (.dK (deckKvs l m k))) : DGet H a (.str "left") (some (.ref l)) := kvs_l (l := l) (m := m) (k := k) ▸ DGet.k (k := .inr "left") h
theorem dg_d {H : Hp} {a l : Addr} {m k : Int} (h : H a = some (.dK (deckKvs l m k))) : DGet H a (.str "draws") (some (.int k)) := kvs_d (l := l) (m := m) (k := k) ▸ DGet.k (k := .inr "draws") h
theorem dp_d {H : Hp} {a l : Addr} {m k j : Int} (h : H a = some (.dK (deckKvs l m k))) : DPut H a (.str "draws") (.int j) (upd H a (.dK (deckKvs l m j))) :=
  kvs_put (l := l) (m := m) (k := k) (j := j) ▸ DPut.k (k := .inr "draws") (v := .int j) h (by rw [sizeLine_eq]; show 3 < _; omega)
/-- the heap behind some steps of a draw -/
structure Dk (a l : Addr) (H H' : Hp) (m k : Int) (xs : List Int) : Prop where
  keep : ∀ p o, p ≠ a → p ≠ l → H p = some o → H' p = some o
  dict : H' a = some (.dK (deckKvs l m k))
  list : H' l = some (.lst (xs.map V.int))
  ne : a ≠ l
theorem Dk.ext {a l : Addr} {H H' : Hp} {m k : Int} {xs : List Int} (d : Dk a l H H' m k xs) (h : xs.length ≤ 63) : Ext (some (a, l)) H H' :=
  ⟨fun p o n e => d.keep p o (fun z => n ⟨a, l, rfl, .inl z⟩) (fun z => n ⟨a, l, rfl, .inr z⟩) e, fun _ a' l' e => by cases e; exact ⟨xs, m, k, d.dict, d.list, h⟩⟩
theorem Dk.new {a l p : Addr} {o : HO} {H H' : Hp} {m k : Int} {xs : List Int} (d : Dk a l H H' m k xs) (hp : H' p = none) : Dk a l H (upd H' p o) m k xs :=
  ⟨fun q u n1 n2 e => by rw [upd_ne (ne_of_none (d.keep q u n1 n2 e) hp)]; exact d.keep q u n1 n2 e, by rw [upd_ne (ne_of_none d.dict hp)]; exact d.dict, by rw [upd_ne (ne_of_none d.list hp)]; exact d.list, d.ne⟩
theorem Dk.put {a l : Addr} {H H' : Hp} {m k j : Int} {xs : List Int} (d : Dk a l H H' m k xs) : Dk a l H (upd H' a (.dK (deckKvs l m j))) m j xs :=
  ⟨fun q u n1 n2 e => by rw [upd_ne n1]; exact d.keep q u n1 n2 e, upd_same, by rw [upd_ne d.ne.symm]; exact d.list, d.ne⟩
theorem Dk.set {a l : Addr} {H H' : Hp} {m k : Int} {xs ys : List Int} (d : Dk a l H H' m k xs) : Dk a l H (upd H' l (.lst (ys.map V.int))) m k ys :=
  ⟨fun q u n1 n2 e => by rw [upd_ne n2]; exact d.keep q u n1 n2 e, by rw [upd_ne d.ne]; exact d.dict, upd_same, d.ne⟩
theorem dp_ints {K : PySem.W.Frag} {H : Hp} : ∀ (xs : List Int), DpAll K H (xs.map V.int) (xs.map PyData.int)
  | [] => .nil
  | x :: xs => .cons (.int x) (dp_ints xs)
theorem shaped_ints (xs : List Int) : SeqAt.shaped (.list (xs.map PyData.int)) = true := by
  have h1 : ∀ xs : List Int, PyData.canLayAll0 (xs.map PyData.int) = true := fun xs => by
    induction xs with
    | nil => rfl
    | cons x xs ih => simpa [PyData.canLayAll0, PyData.canLay0] using ih
  have h2 : ∀ xs : List Int, PyData.depthAll (xs.map PyData.int) ≤ 1 := fun xs => by
    induction xs with
    | nil => simp [PyData.depthAll]
    | cons x xs ih => simp only [List.map_cons, PyData.depthAll, PyData.depth]; omega
  have := h2 xs
  unfold SeqAt.shaped
  rw [Bool.and_eq_true]
  refine ⟨by simpa [PyData.canLay0] using h1 xs, decide_eq_true ?_⟩
  simp only [PyData.depth]
  omega
theorem eqv_ints_nil : ∀ xs : List Int, (!PyData.eqv (.list (xs.map PyData.int)) (.list [])) = !xs.isEmpty
  | [] => rfl
  | x :: xs => rfl
theorem last_of (xs : List Int) : xs = [] ∨ ∃ (ys : List Int) (y : Int), xs = ys ++ [y] := by
  rcases List.eq_nil_or_concat xs with h | ⟨l, b, h⟩
  · exact .inl h
  · exact .inr ⟨l, b, by rw [h, List.concat_eq_append]⟩
end DL
set_option Elab.async false
set_option linter.all false
set_option maxRecDepth 100000
namespace DL
open PySem PySem.Spec L2
open PyProof.Rows hiding St
/-- a new deck, from the script -/
def spDeck (K : PySem.W.Frag) : Sp := fun vs H Q _ => ∃ (s : Addr) (ns : List Int), vs = [.ref s] ∧ SqL K H s (ns.map V.int) ∧ ns.length ≤ 63 ∧
  ∀ (H' : Hp) (a l : Addr) (m : Int) (xs : List Int), (∀ p o, H p = some o → H' p = some o) → H a = none → H l = none → H' a = some (.dK (deckKvs l m 0)) → H' l = some (.lst (xs.map V.int)) → xs.length ≤ 63 → Q (.ref a) H'
theorem merge_deck {l : Addr} {m : Int} : mergeK [] [(.inr ("left" : Str), .ref l), (.inr ("mixed" : Str), .int m), (.inr ("draws" : Str), .int 0)] = deckKvs l m 0 := rfl
theorem PSs.exF {X : Cx} {sts : List Stmt} {K : PySem.W.Frag} {T : TDS} (h : ∀ F : FP, F.K = K → PSs X sts (sD F T)) : PSs X sts (fun De σ H => ∃ F : FP, F.K = K ∧ sD F T De σ H) :=
  ⟨fun pins s σ H De I ⟨F, e, q⟩ => (h F e).run pins s σ H De I q⟩
/-- the law: a deck is made, the rest is data -/
def spLaw (K : PySem.W.Frag) (n : Nat) (T : TDS) : Sp := fun vs H Q _ => ∃ (s : Addr) (ns : List Int), vs = [.ref s] ∧ SqL K H s (ns.map V.int) ∧ ns.length ≤ 63 ∧
  T (fun _ => False) { nx := fun _ => False, rt := fun d => d = .bl true } (.un :: .d .deck :: List.replicate n .un) ∧ ∀ H', Q (.bl true) H'
theorem law_rest {K : PySem.W.Frag} {n : Nat} {T : TDS} {H' : Hp} {Q : VK} {a l : Addr} {m : Int} {xs : List Int} {s0 : V} (h0 : H' a = some (.dK (deckKvs l m 0))) (h1 : H' l = some (.lst (xs.map V.int))) (hx : xs.length ≤ 63)
    (hT : T (fun _ => False) { nx := fun _ => False, rt := fun d => d = .bl true } (.un :: .d .deck :: List.replicate n .un)) (k : ∀ H', Q (.bl true) H') :
    ∃ F : FP, F.K = K ∧ sD F T { nx := fun _ H' => Q .non H', rt := Q } (some s0 :: some (.ref a) :: List.replicate n none) H' := by
  refine ⟨⟨K, some (a, l), fun p => p = a ∨ p = l, H', fun _ => False⟩, rfl, fun p => p = a ∨ p = l, _, _, ⟨⟨?_, .refl, fun _ h => h, ?_, ?_, ?_⟩, by simp, ?_, ?_⟩, hT, ⟨fun _ _ _ _ _ _ z => z.elim, fun v H2 d _ r z => ?_, fun _ _ _ _ _ _ z => z.elim, fun _ _ _ _ _ _ z => z.elim⟩⟩
  · intro a' l' e; cases e; exact ⟨xs, m, 0, h0, h1, hx⟩
  · rintro p ⟨a', l', e, z⟩; cases e; exact z
  · rintro p (rfl | rfl)
    · exact ⟨_, h0⟩
    · exact ⟨_, h1⟩
  · exact fun p h n => (n h).elim
  · intro i s hs
    match i, hs with
    | 0, hs => cases hs; trivial
    | 1, hs => cases hs; exact ⟨.ref a, rfl, a, l, rfl, rfl⟩
    | i + 2, hs =>
      have : s = .un := by
        have := List.mem_of_getElem? (show (List.replicate n Slot.un)[i]? = some s from hs)
        exact (List.mem_replicate.mp this).2
      subst this
      trivial
  · intro i j p xs ys _ h
    match i, h with
    | 0, h => cases h
    | 1, h => cases h
    | i + 2, h =>
      have := List.mem_of_getElem? (show (List.replicate n Slot.un)[i]? = some (.own xs) from h)
      cases (List.mem_replicate.mp this).2
  · have z : d = .bl true := z
    subst z
    rw [show v = .bl true from r]
    exact k H2
theorem _root_.L2.Same.lay {H H1 : Hp} {q : Addr} {o : HO} (s : Same H H1) (hq : H1 q = none) : Same H (upd H1 q o) := fun b u e => by
  rw [upd_ne (ne_of_none (s b u e) hq)]
  exact s b u e
theorem cut_ints (ns : List Int) (lo hi : Option Int) : ∃ ms : List Int, cutV (ns.map V.int) lo hi = ms.map V.int ∧ ms.length ≤ ns.length := by
  refine ⟨(ns.drop (HT.sIx ns.length 0 lo)).take (HT.sIx ns.length ns.length hi - HT.sIx ns.length 0 lo), ?_, ?_⟩
  · unfold cutV
    rw [List.length_map, ← List.map_drop, ← List.map_take]
  · rw [List.length_take, List.length_drop]
    omega
theorem keepU {H : Hp} {p q : Addr} {o u : HO} (h : H p = some u) (hq : H q = none) : upd H q o p = some u := by
  rw [upd_ne (ne_of_none h hq)]
  exact h
end DL
set_option Elab.async false
set_option linter.all false
set_option maxRecDepth 100000
set_option maxHeartbeats 2000000
namespace DL
open PySem PySem.Spec L2
open PyProof.Rows hiding St
section
variable {P : Program} {w : World} {K : PySem.W.Frag} {mg mb : Str → Option Value} {CX : CXT} {k : Nat} {fa a : Addr} {fd : FuncData} {x : Str} {sp : Sp} {s₁ : Shared} {vs : List Value} {ns : List Int}
/-- the abstract heap at the law's call: the script, if it is no object of the module's own -/
def startH (K : PySem.W.Frag) (a : Addr) (vs : List Value) (ns : List Int) : Hp := fun b => match K.lookup a with
  | some _ => none
  | none => if b = a then some (.frz { cls := .type "list", data := .seq vs.toArray } (.lst (ns.map V.int))) else none
theorem startH_at {b : Addr} {u : HO} (h : startH K a vs ns b = some u) : K.lookup a = none ∧ b = a ∧ u = .frz { cls := .type "list", data := .seq vs.toArray } (.lst (ns.map V.int)) := by
  unfold startH at h
  cases q : K.lookup a with
  | some o => rw [q] at h; cases h
  | none =>
    rw [q] at h
    by_cases hb : b = a
    · rw [if_pos hb] at h
      cases h
      exact ⟨rfl, hb, rfl⟩
    · rw [if_neg hb] at h
      cases h
theorem law_callG (KX : K.In s₁.heap) (hns : s₁.heap.Ns mainGlobals mg) (hb : s₁.heap.Ns builtinsNs mb) (hbb : ∀ x : Str, x ≠ "__name__" → mb x = bootBuiltins x) (hlim : s₁.heap.NoLimit) (hg : s₁.gens = #[])
    (ha : s₁.heap.get? a = some { cls := .type "list", data := .seq vs.toArray }) (hi : IntsAre vs ns) (hl : ns.length ≤ sizeLine) (hr : RoomG k callerA)
    (F : ∀ base : Heap, K.In base → base.Ns mainGlobals mg → FnG P w K mg base CX k fa fd [x] sp) (hbind : ∀ (s : Shared) (u : Value), BindsTo s fd ⟨[u], []⟩ [(x, u)])
    (hsp : ∀ H : Hp, SqL K H a (ns.map V.int) → sp [.ref a] H (fun v _ => v = .bl true) fun _ _ _ => False) (hCX : ∀ H e s', CX [] H s₁ (fun _ _ _ => False) e s' → False) :
    codeAny (model P w) callerA (.call (.ref fa) ⟨[.ref a], []⟩) (fun r s' => r = .ok (.ret (.bool true)) ∧ OldK s₁.heap s'.heap ∧ s'.os = s₁.os ∧ AllBare s'.gens) s₁ := by
  have rel := vals_ints hi
  have hlen : ns.length = vs.length := hi.length.symm
  generalize eH : startH K a vs ns = H
  have at_ : ∀ {b : Addr} {u : HO}, H b = some u → K.lookup a = none ∧ b = a ∧ u = .frz { cls := .type "list", data := .seq vs.toArray } (.lst (ns.map V.int)) := fun {b u} h => startH_at (by rw [eH]; exact h)
  have free : ∀ {b : Addr}, b ≠ a → H b = none := fun {b} h => by
    cases q : H b with
    | none => rfl
    | some u => exact absurd (at_ q).2.1 h
  have held : HOk P w H s₁.heap := fun b u e => by
    obtain ⟨_, rfl, rfl⟩ := at_ e
    exact ⟨ha, by rw [List.length_map]; exact hl, vs, _, rel, ha⟩
  have script : SqL K H a (ns.map V.int) := by
    cases q : K.lookup a with
    | none =>
      refine .inl (.inr ⟨{ cls := .type "list", data := .seq vs.toArray }, ?_⟩)
      rw [← eH]
      unfold startH
      rw [q]
      exact if_pos rfl
    | some o =>
      have e := KX a o q
      rw [ha] at e
      cases e
      exact .inr ⟨_, vs.toArray, _, q, rfl, rfl, rfl, by rw [List.size_toArray, ← hlen]; exact hl, by simpa using rel⟩
  have notDict : ∀ {b : Addr} {o : Obj} {es : Array DictEntry} {ep : Nat}, s₁.heap.get? b = some o → o.data = .dict es ep → H b = none := fun {b o es ep} e d => free fun z => by
    subst z
    rw [ha] at e
    cases e
    cases (show Data.seq vs.toArray _ = Data.dict es ep from d)
  have ns' : ∀ {b : Addr} {m : Str → Option Value}, s₁.heap.Ns b m → (hidT s₁.heap H).Ns b m := fun {b m} ⟨o, es, ep, e, d, r⟩ => ⟨o, es, ep, hidT_get e (notDict e d), d, r⟩
  have inK : K.In (hidT s₁.heap H) := fun b o e => hidT_get (KX b o e) (by
    cases q : H b with
    | none => rfl
    | some u =>
      obtain ⟨h1, h2, _⟩ := at_ q
      rw [h2, h1] at e
      cases e)
  obtain ⟨mc, l1, l2⟩ := hlim
  have e0 : Env0 P w K mg (hidT s₁.heap H) callerA [] s₁ H :=
    ⟨rfl, ⟨inK, ns' hns, ⟨mb, ns' hb, hbb⟩, mc, ns' l1, l2⟩, fun b o e => of_hidT e, Nat.le_of_eq (hidT_size _ _), trivial, (fun b h => by cases h), held, .of_eq hg⟩
  refine codeAny_mono ((F _ inK (ns' hns)).run callerA [] s₁ H ⟨[.ref a], []⟩ [.ref a] [.ref a] _ _ hr e0 (hbind s₁ (.ref a)) (.cons rfl .nil) (hsp H script)) ?_
  rintro (e | fl) s' h
  · exact (hCX H e s' h).elim
  cases fl with
  | next => cases h
  | brk => cases h
  | cont => cases h
  | ret u =>
    obtain ⟨v, H', os, bare, un, hok', r', q⟩ := h
    have q' : v = .bl true := q
    subst q'
    obtain rfl : u = Value.bool true := r'
    refine ⟨rfl, OldK.of_keep fun b o e => ?_, os, bare⟩
    cases q : H b with
    | none => exact un.keep b o e q (by intro z; cases z) (by intro z; cases z)
    | some u =>
      obtain ⟨_, rfl, rfl⟩ := at_ q
      obtain ⟨e2, _⟩ := hok' b _ (un.frzs b _ _ q)
      rw [ha] at e
      cases e
      exact e2
end
theorem walk_ofG {l : PySem.W.OpenLaw} {n k : Nat} {q : Program} {loose : List Str} {XP : (Str → Option Value) → Heap → Prop} {YP : World → Heap → Prop} {d : DefRec} {x : Str}
    (hn : l.most = some n) (hn2 : n ≤ sizeLine) (hdf : d.params.defaults = []) (hr : RoomG k callerA)
    (F : ∀ (w : World) (mg : Str → Option Value) (fa : Addr) (h : Heap), YP w h → h.Ns mainGlobals mg → mg d.name = some (.ref fa) →
      ∃ (K : PySem.W.Frag) (fd : FuncData) (sp : Sp), K.In h ∧ (∀ (s : Shared) (u : Value), BindsTo s fd ⟨[u], []⟩ [(x, u)]) ∧
        (∀ (H : Hp) (a : Addr) (ns : List Int), ns.length ≤ n → SqL K H a (ns.map V.int) → sp [.ref a] H (fun v _ => v = .bl true) fun _ _ _ => False) ∧
        ∀ base : Heap, K.In base → base.Ns mainGlobals mg → FnG l.prog w K mg base CX0 k fa fd [x] sp) :
    PySem.W.WalkO q loose XP YP l.row.toRowW d [] (fun f vs => PySem.call f vs) :=
  Att.attach_call hn hdf fun w s₀ s₁ mg mb fa o pm cd doc a vs ns G Y ho hd hcd hmg hobj hints hlen hg =>
    let ⟨_, _, _, KX, hb, hsp, hF⟩ := F w mg fa _ Y G.T.g hmg
    law_callG KX G.T.g G.T.b G.T.builtins G.T.nolimit hg hobj hints (Nat.le_trans hlen hn2) hr hF hb (fun H hS => hsp H a ns hlen hS) fun _ _ _ z => z
/-! ### the head: facts, and some more -/
def obsE (n : Nat) (fa : List He.Fa) (fn : List He.DefD) (ex : PySem.W.Frag → Bool) (g : Addr → Option Obj) : He.AlD × Bool := (He.obsD fa fn (He.frG g (He.asD g n)), ex (He.frG g (He.asD g n)))
def hookE (n : Nat) (fa : List He.Fa) (fn : List He.DefD) (ex : PySem.W.Frag → Bool) : PySem.W.Hook where
  α := He.AlD × Bool
  obs := fun s => obsE n fa fn ex s.heap.get?
  val := fun _ => (He.valD fn, true)
  says := fun _ h => ∃ K : PySem.W.Frag, K.In h ∧ He.SaysD fa fn K ∧ ex K = true
  of := fun _ _ e => ⟨_, He.frG_in, congrArg (fun z : He.AlD × Bool => z.1) e, congrArg (fun z : He.AlD × Bool => z.2) e⟩
  keeps := fun _ _ _ ⟨K, hK, c⟩ k => ⟨K, PySem.W.Frag.In.keeps hK k, c⟩
theorem obsE_eq {n : Nat} {fa : List He.Fa} {fn : List He.DefD} {ex : PySem.W.Frag → Bool} {g : Addr → Option Obj} {s : Shared} (h : ∀ a, g a = s.heap.get? a) : obsE n fa fn ex g = (hookE n fa fn ex).obs s := by
  have e : g = s.heap.get? := funext h
  rw [e]
  rfl
def bltB (K : PySem.W.Frag) (x : Str) (b : String) : Bool := decide (PySem.W.nsIn K mainGlobals x = some (some (.builtin b)))
theorem blt_ok {K : PySem.W.Frag} {h : Heap} {mg : Str → Option Value} (X : K.In h) (G : h.Ns mainGlobals mg) {x : Str} {b : String} (c : bltB K x b = true) : mg x = some (.builtin b) := PySem.W.mg_of X G (of_decide_eq_true c)
end DL
set_option maxRecDepth 100000
namespace DL
open PySem PySem.Spec L2
/-! ### plain facts for readings -/
theorem ifd {p : Prop} [Decidable p] {A B : Prop} (h1 : p → A) (h2 : ¬ p → B) : if decide p = true then A else B := by
  by_cases h : p
  · rw [decide_eq_true h, if_pos rfl]; exact h1 h
  · rw [decide_eq_false h, if_neg Bool.false_ne_true]; exact h2 h
theorem ifdn {p : Prop} [Decidable p] {A B : Prop} (h1 : ¬ p → A) (h2 : p → B) : if (!decide p) = true then A else B := by
  by_cases h : p
  · rw [decide_eq_true h]; exact h2 h
  · rw [decide_eq_false h]; exact h1 h
theorem sz {n : Nat} (h : n ≤ 1000 := by decide) : n ≤ sizeLine := Nat.le_trans h (by rw [sizeLine_eq]; decide)
/-- an int of at most n bits -/
def Bd (n : Nat) (i : Int) : Prop := i.natAbs < 2 ^ n
theorem Bd.mono {n m : Nat} {i : Int} (h : Bd n i) (l : n ≤ m) : Bd m i := Nat.lt_of_lt_of_le h (Nat.pow_le_pow_right (by decide) l)
theorem Bd.mul {n m : Nat} {i j : Int} (h : Bd n i) (g : Bd m j) : Bd (n + m) (i * j) := wide_lt h g
theorem Bd.neg {n : Nat} {i : Int} (h : Bd n i) : Bd n (-i) := by unfold Bd; rw [Int.natAbs_neg]; exact h
theorem Bd.add {n : Nat} {i j : Int} (h : Bd n i) (g : Bd n j) : Bd (n + 1) (i + j) := by
  unfold Bd at *
  have : (i + j).natAbs ≤ i.natAbs + j.natAbs := Int.natAbs_add_le i j
  rw [Nat.pow_succ]
  omega
theorem Bd.sub {n : Nat} {i j : Int} (h : Bd n i) (g : Bd n j) : Bd (n + 1) (i - j) := by
  rw [Int.sub_eq_add_neg]
  exact h.add g.neg
theorem Bd.cmul {n m : Nat} {i j : Int} (h : Bd n i) (g : Bd m j) (l : n + m ≤ 900000 := by decide) : CMulW i j :=
  wide_mul (h.mono (Nat.le_succ n)) (g.mono (Nat.le_succ m)) (Nat.succ_pos _) (Nat.succ_pos _) (by omega)
theorem Bd.lit {n : Nat} {i : Int} (h : i.natAbs < 2 ^ n := by decide) : Bd n i := h
theorem Bd.of_le {n : Nat} {i j : Int} (h : Bd n j) (l : i.natAbs ≤ j.natAbs) : Bd n i := Nat.lt_of_le_of_lt l h
theorem Bd.cdiv {n : Nat} {i j : Int} (h : Bd n j) (p : 0 < j) (l : n ≤ 8000 := by decide) : CDivW i j :=
  wide_div p (h.mono (Nat.le_succ n)) (Nat.succ_pos _) (by omega)
theorem bd_small {i : Int} {n m : Nat} (h0 : 0 ≤ i) (h : i < n) (l : n ≤ 2 ^ m := by decide) : Bd m i := by
  unfold Bd
  omega
end DL
set_option Elab.async false
set_option linter.all false
set_option maxRecDepth 100000
set_option maxHeartbeats 4000000
namespace K07
open PySem PySem.Spec L2 DL
open PyProof.Rows hiding St
def top (i : Nat) : Stmt := PySem.Challenge.pw_nevertwice_k07_signs_order_and_integers.main.body.getD i (.Pass ⟨0, 0, 0, 0⟩)
abbrev s_is_plain_integer : Stmt := top 2
abbrev s_is_tuple_of : Stmt := top 3
abbrev s_are_plain_integers : Stmt := top 4
abbrev s_is_golden : Stmt := top 9
abbrev s__need_golden : Stmt := top 10
abbrev s_sign_of_parts : Stmt := top 11
abbrev s__order : Stmt := top 12
abbrev s_sign : Stmt := top 13
abbrev s_is_below : Stmt := top 14
abbrev s_are_equal : Stmt := top 15
abbrev s_integer_below : Stmt := top 16
abbrev s_integer_above : Stmt := top 17
abbrev s_is_whole : Stmt := top 18
abbrev s__law_deck : Stmt := top 20
abbrev s__law_draw : Stmt := top 21
abbrev s__law_pick : Stmt := top 22
abbrev s__law_integer : Stmt := top 23
abbrev s__law_sign : Stmt := top 24
abbrev s__law_same : Stmt := top 25
abbrev s__law_thin : Stmt := top 26
abbrev s__law_golden : Stmt := top 27
abbrev s__law_other : Stmt := top 28
abbrev s__law_apart : Stmt := top 29
abbrev s__law_is_between : Stmt := top 30
abbrev s__law_are_right : Stmt := top 31
abbrev s_law : Stmt := top 32
abbrev FnP (K : PySem.W.Frag) (x : Str) (st : Stmt) (f : Addr) (fd : FuncData) : Prop := FunD K x x (defArgs st) (defBody st) (defScope st) [] [] f fd
structure Tx (K : PySem.W.Frag) (mg : Str → Option Value) where
  a_is_plain_integer : Addr
  d_is_plain_integer : FuncData
  F_is_plain_integer : FnP K "is_plain_integer" s_is_plain_integer a_is_plain_integer d_is_plain_integer
  m_is_plain_integer : mg "is_plain_integer" = some (.ref a_is_plain_integer)
  a_is_tuple_of : Addr
  d_is_tuple_of : FuncData
  F_is_tuple_of : FnP K "is_tuple_of" s_is_tuple_of a_is_tuple_of d_is_tuple_of
  m_is_tuple_of : mg "is_tuple_of" = some (.ref a_is_tuple_of)
  a_are_plain_integers : Addr
  d_are_plain_integers : FuncData
  F_are_plain_integers : FnP K "are_plain_integers" s_are_plain_integers a_are_plain_integers d_are_plain_integers
  m_are_plain_integers : mg "are_plain_integers" = some (.ref a_are_plain_integers)
  a_is_golden : Addr
  d_is_golden : FuncData
  F_is_golden : FnP K "is_golden" s_is_golden a_is_golden d_is_golden
  m_is_golden : mg "is_golden" = some (.ref a_is_golden)
  a__need_golden : Addr
  d__need_golden : FuncData
  F__need_golden : FnP K "_need_golden" s__need_golden a__need_golden d__need_golden
  m__need_golden : mg "_need_golden" = some (.ref a__need_golden)
  a_sign_of_parts : Addr
  d_sign_of_parts : FuncData
  F_sign_of_parts : FnP K "sign_of_parts" s_sign_of_parts a_sign_of_parts d_sign_of_parts
  m_sign_of_parts : mg "sign_of_parts" = some (.ref a_sign_of_parts)
  a__order : Addr
  d__order : FuncData
  F__order : FnP K "_order" s__order a__order d__order
  m__order : mg "_order" = some (.ref a__order)
  a_sign : Addr
  d_sign : FuncData
  F_sign : FnP K "sign" s_sign a_sign d_sign
  m_sign : mg "sign" = some (.ref a_sign)
  a_is_below : Addr
  d_is_below : FuncData
  F_is_below : FnP K "is_below" s_is_below a_is_below d_is_below
  m_is_below : mg "is_below" = some (.ref a_is_below)
  a_are_equal : Addr
  d_are_equal : FuncData
  F_are_equal : FnP K "are_equal" s_are_equal a_are_equal d_are_equal
  m_are_equal : mg "are_equal" = some (.ref a_are_equal)
  a_integer_below : Addr
  d_integer_below : FuncData
  F_integer_below : FnP K "integer_below" s_integer_below a_integer_below d_integer_below
  m_integer_below : mg "integer_below" = some (.ref a_integer_below)
  a_integer_above : Addr
  d_integer_above : FuncData
  F_integer_above : FnP K "integer_above" s_integer_above a_integer_above d_integer_above
  m_integer_above : mg "integer_above" = some (.ref a_integer_above)
  a_is_whole : Addr
  d_is_whole : FuncData
  F_is_whole : FnP K "is_whole" s_is_whole a_is_whole d_is_whole
  m_is_whole : mg "is_whole" = some (.ref a_is_whole)
  a__law_deck : Addr
  d__law_deck : FuncData
  F__law_deck : FnP K "_law_deck" s__law_deck a__law_deck d__law_deck
  m__law_deck : mg "_law_deck" = some (.ref a__law_deck)
  a__law_draw : Addr
  d__law_draw : FuncData
  F__law_draw : FnP K "_law_draw" s__law_draw a__law_draw d__law_draw
  m__law_draw : mg "_law_draw" = some (.ref a__law_draw)
  a__law_pick : Addr
  d__law_pick : FuncData
  F__law_pick : FnP K "_law_pick" s__law_pick a__law_pick d__law_pick
  m__law_pick : mg "_law_pick" = some (.ref a__law_pick)
  a__law_integer : Addr
  d__law_integer : FuncData
  F__law_integer : FnP K "_law_integer" s__law_integer a__law_integer d__law_integer
  m__law_integer : mg "_law_integer" = some (.ref a__law_integer)
  a__law_sign : Addr
  d__law_sign : FuncData
  F__law_sign : FnP K "_law_sign" s__law_sign a__law_sign d__law_sign
  m__law_sign : mg "_law_sign" = some (.ref a__law_sign)
  a__law_same : Addr
  d__law_same : FuncData
  F__law_same : FnP K "_law_same" s__law_same a__law_same d__law_same
  m__law_same : mg "_law_same" = some (.ref a__law_same)
  a__law_thin : Addr
  d__law_thin : FuncData
  F__law_thin : FnP K "_law_thin" s__law_thin a__law_thin d__law_thin
  m__law_thin : mg "_law_thin" = some (.ref a__law_thin)
  a__law_golden : Addr
  d__law_golden : FuncData
  F__law_golden : FnP K "_law_golden" s__law_golden a__law_golden d__law_golden
  m__law_golden : mg "_law_golden" = some (.ref a__law_golden)
  a__law_other : Addr
  d__law_other : FuncData
  F__law_other : FnP K "_law_other" s__law_other a__law_other d__law_other
  m__law_other : mg "_law_other" = some (.ref a__law_other)
  a__law_apart : Addr
  d__law_apart : FuncData
  F__law_apart : FnP K "_law_apart" s__law_apart a__law_apart d__law_apart
  m__law_apart : mg "_law_apart" = some (.ref a__law_apart)
  a__law_is_between : Addr
  d__law_is_between : FuncData
  F__law_is_between : FnP K "_law_is_between" s__law_is_between a__law_is_between d__law_is_between
  m__law_is_between : mg "_law_is_between" = some (.ref a__law_is_between)
  a__law_are_right : Addr
  d__law_are_right : FuncData
  F__law_are_right : FnP K "_law_are_right" s__law_are_right a__law_are_right d__law_are_right
  m__law_are_right : mg "_law_are_right" = some (.ref a__law_are_right)
  a_law : Addr
  d_law : FuncData
  F_law : FnP K "law" s_law a_law d_law
  m_law : mg "law" = some (.ref a_law)
  n_abs : mg "abs" = none
  n_all : mg "all" = none
  n_bool : mg "bool" = none
  n_int : mg "int" = none
  n_isinstance : mg "isinstance" = none
  n_len : mg "len" = none
  n_list : mg "list" = none
  n_max : mg "max" = none
  n_range : mg "range" = none
  n_repr : mg "repr" = none
  n_tuple : mg "tuple" = none
  i_isqrt : mg "isqrt" = some (.builtin "math.isqrt")
section
variable {P : Program} {w : World} {K : PySem.W.Frag} {mg : Str → Option Value} {base : Heap}
theorem sc_is_plain_integer : FnScope ["thing"] ["thing"] (defScope s_is_plain_integer) := ⟨rfl, rfl, rfl, by decide +kernel, rfl, by decide +kernel, by decide +kernel⟩
theorem b_is_plain_integer (t : Tx K mg) : Binds K t.d_is_plain_integer ["thing"] [] := t.F_is_plain_integer.bindsN fun _ _ _ _ _ _ us hl => match us, hl with | [_], _ => rfl
theorem sc_is_tuple_of : FnScope ["thing", "many"] ["thing", "many"] (defScope s_is_tuple_of) := ⟨rfl, rfl, rfl, by decide +kernel, rfl, by decide +kernel, by decide +kernel⟩
theorem b_is_tuple_of (t : Tx K mg) : Binds K t.d_is_tuple_of ["thing", "many"] [] := t.F_is_tuple_of.bindsN fun _ _ _ _ _ _ us hl => match us, hl with | [_, _], _ => rfl
theorem sc_are_plain_integers : FnScope ["thing", "many", "part"] ["thing", "many"] (defScope s_are_plain_integers) := ⟨rfl, rfl, rfl, by decide +kernel, rfl, by decide +kernel, by decide +kernel⟩
theorem b_are_plain_integers (t : Tx K mg) : Binds K t.d_are_plain_integers ["thing", "many"] [] := t.F_are_plain_integers.bindsN fun _ _ _ _ _ _ us hl => match us, hl with | [_, _], _ => rfl
theorem sc_is_golden : FnScope ["thing"] ["thing"] (defScope s_is_golden) := ⟨rfl, rfl, rfl, by decide +kernel, rfl, by decide +kernel, by decide +kernel⟩
theorem b_is_golden (t : Tx K mg) : Binds K t.d_is_golden ["thing"] [] := t.F_is_golden.bindsN fun _ _ _ _ _ _ us hl => match us, hl with | [_], _ => rfl
theorem sc__need_golden : FnScope ["thing"] ["thing"] (defScope s__need_golden) := ⟨rfl, rfl, rfl, by decide +kernel, rfl, by decide +kernel, by decide +kernel⟩
theorem b__need_golden (t : Tx K mg) : Binds K t.d__need_golden ["thing"] [] := t.F__need_golden.bindsN fun _ _ _ _ _ _ us hl => match us, hl with | [_], _ => rfl
theorem sc_sign_of_parts : FnScope ["a", "b", "front", "does_front_win"] ["a", "b"] (defScope s_sign_of_parts) := ⟨rfl, rfl, rfl, by decide +kernel, rfl, by decide +kernel, by decide +kernel⟩
theorem b_sign_of_parts (t : Tx K mg) : Binds K t.d_sign_of_parts ["a", "b"] [] := t.F_sign_of_parts.bindsN fun _ _ _ _ _ _ us hl => match us, hl with | [_, _], _ => rfl
theorem sc__order : FnScope ["one", "other", "a", "b", "d", "c", "e", "f"] ["one", "other"] (defScope s__order) := ⟨rfl, rfl, rfl, by decide +kernel, rfl, by decide +kernel, by decide +kernel⟩
theorem b__order (t : Tx K mg) : Binds K t.d__order ["one", "other"] [] := t.F__order.bindsN fun _ _ _ _ _ _ us hl => match us, hl with | [_, _], _ => rfl
theorem sc_sign : FnScope ["number"] ["number"] (defScope s_sign) := ⟨rfl, rfl, rfl, by decide +kernel, rfl, by decide +kernel, by decide +kernel⟩
theorem b_sign (t : Tx K mg) : Binds K t.d_sign ["number"] [] := t.F_sign.bindsN fun _ _ _ _ _ _ us hl => match us, hl with | [_], _ => rfl
theorem sc_is_below : FnScope ["one", "other"] ["one", "other"] (defScope s_is_below) := ⟨rfl, rfl, rfl, by decide +kernel, rfl, by decide +kernel, by decide +kernel⟩
theorem b_is_below (t : Tx K mg) : Binds K t.d_is_below ["one", "other"] [] := t.F_is_below.bindsN fun _ _ _ _ _ _ us hl => match us, hl with | [_, _], _ => rfl
theorem sc_are_equal : FnScope ["one", "other"] ["one", "other"] (defScope s_are_equal) := ⟨rfl, rfl, rfl, by decide +kernel, rfl, by decide +kernel, by decide +kernel⟩
theorem b_are_equal (t : Tx K mg) : Binds K t.d_are_equal ["one", "other"] [] := t.F_are_equal.bindsN fun _ _ _ _ _ _ us hl => match us, hl with | [_, _], _ => rfl
theorem sc_integer_below : FnScope ["number", "a", "b", "d", "root"] ["number"] (defScope s_integer_below) := ⟨rfl, rfl, rfl, by decide +kernel, rfl, by decide +kernel, by decide +kernel⟩
theorem b_integer_below (t : Tx K mg) : Binds K t.d_integer_below ["number"] [] := t.F_integer_below.bindsN fun _ _ _ _ _ _ us hl => match us, hl with | [_], _ => rfl
theorem sc_integer_above : FnScope ["number", "a", "b", "d"] ["number"] (defScope s_integer_above) := ⟨rfl, rfl, rfl, by decide +kernel, rfl, by decide +kernel, by decide +kernel⟩
theorem b_integer_above (t : Tx K mg) : Binds K t.d_integer_above ["number"] [] := t.F_integer_above.bindsN fun _ _ _ _ _ _ us hl => match us, hl with | [_], _ => rfl
theorem sc_is_whole : FnScope ["number", "a", "b", "d"] ["number"] (defScope s_is_whole) := ⟨rfl, rfl, rfl, by decide +kernel, rfl, by decide +kernel, by decide +kernel⟩
theorem b_is_whole (t : Tx K mg) : Binds K t.d_is_whole ["number"] [] := t.F_is_whole.bindsN fun _ _ _ _ _ _ us hl => match us, hl with | [_], _ => rfl
theorem sc__law_deck : FnScope ["_law_script", "_law_mixed", "_law_cell"] ["_law_script"] (defScope s__law_deck) := ⟨rfl, rfl, rfl, by decide +kernel, rfl, by decide +kernel, by decide +kernel⟩
theorem b__law_deck (t : Tx K mg) : Binds K t.d__law_deck ["_law_script"] [] := t.F__law_deck.bindsN fun _ _ _ _ _ _ us hl => match us, hl with | [_], _ => rfl
theorem sc__law_draw : FnScope ["_law_deck_here", "_law_many", "_law_figure", "_law_cell"] ["_law_deck_here", "_law_many"] (defScope s__law_draw) := ⟨rfl, rfl, rfl, by decide +kernel, rfl, by decide +kernel, by decide +kernel⟩
theorem b__law_draw (t : Tx K mg) : Binds K t.d__law_draw ["_law_deck_here", "_law_many"] [] := t.F__law_draw.bindsN fun _ _ _ _ _ _ us hl => match us, hl with | [_, _], _ => rfl
theorem sc__law_pick : FnScope ["_law_deck_here", "_law_some"] ["_law_deck_here", "_law_some"] (defScope s__law_pick) := ⟨rfl, rfl, rfl, by decide +kernel, rfl, by decide +kernel, by decide +kernel⟩
theorem b__law_pick (t : Tx K mg) : Binds K t.d__law_pick ["_law_deck_here", "_law_some"] [] := t.F__law_pick.bindsN fun _ _ _ _ _ _ us hl => match us, hl with | [_, _], _ => rfl
theorem sc__law_integer : FnScope ["_law_deck_here", "_law_pieces", "_law_way", "_law_facing", "_law_found", "_law_piece"] ["_law_deck_here", "_law_pieces"] (defScope s__law_integer) := ⟨rfl, rfl, rfl, by decide +kernel, rfl, by decide +kernel, by decide +kernel⟩
theorem b__law_integer (t : Tx K mg) : Binds K t.d__law_integer ["_law_deck_here", "_law_pieces"] [] := t.F__law_integer.bindsN fun _ _ _ _ _ _ us hl => match us, hl with | [_, _], _ => rfl
theorem sc__law_sign : FnScope ["_law_a", "_law_b", "_law_near"] ["_law_a", "_law_b"] (defScope s__law_sign) := ⟨rfl, rfl, rfl, by decide +kernel, rfl, by decide +kernel, by decide +kernel⟩
theorem b__law_sign (t : Tx K mg) : Binds K t.d__law_sign ["_law_a", "_law_b"] [] := t.F__law_sign.bindsN fun _ _ _ _ _ _ us hl => match us, hl with | [_, _], _ => rfl
theorem sc__law_same : FnScope ["_law_told", "_law_due"] ["_law_told", "_law_due"] (defScope s__law_same) := ⟨rfl, rfl, rfl, by decide +kernel, rfl, by decide +kernel, by decide +kernel⟩
theorem b__law_same (t : Tx K mg) : Binds K t.d__law_same ["_law_told", "_law_due"] [] := t.F__law_same.bindsN fun _ _ _ _ _ _ us hl => match us, hl with | [_, _], _ => rfl
theorem sc__law_thin : FnScope ["_law_deck_here", "_law_pieces", "_law_many", "_law_a", "_law_b", "_law_turn"] ["_law_deck_here", "_law_pieces"] (defScope s__law_thin) := ⟨rfl, rfl, rfl, by decide +kernel, rfl, by decide +kernel, by decide +kernel⟩
theorem b__law_thin (t : Tx K mg) : Binds K t.d__law_thin ["_law_deck_here", "_law_pieces"] [] := t.F__law_thin.bindsN fun _ _ _ _ _ _ us hl => match us, hl with | [_, _], _ => rfl
theorem sc__law_golden : FnScope ["_law_deck_here", "_law_pieces", "_law_d", "_law_way", "_law_a", "_law_b"] ["_law_deck_here", "_law_pieces"] (defScope s__law_golden) := ⟨rfl, rfl, rfl, by decide +kernel, rfl, by decide +kernel, by decide +kernel⟩
theorem b__law_golden (t : Tx K mg) : Binds K t.d__law_golden ["_law_deck_here", "_law_pieces"] [] := t.F__law_golden.bindsN fun _ _ _ _ _ _ us hl => match us, hl with | [_, _], _ => rfl
theorem sc__law_other : FnScope ["_law_deck_here", "_law_p", "_law_pieces", "_law_way", "_law_factor", "_law_a", "_law_b"] ["_law_deck_here", "_law_p", "_law_pieces"] (defScope s__law_other) := ⟨rfl, rfl, rfl, by decide +kernel, rfl, by decide +kernel, by decide +kernel⟩
theorem b__law_other (t : Tx K mg) : Binds K t.d__law_other ["_law_deck_here", "_law_p", "_law_pieces"] [] := t.F__law_other.bindsN fun _ _ _ _ _ _ us hl => match us, hl with | [_, _, _], _ => rfl
theorem sc__law_apart : FnScope ["_law_p", "_law_q"] ["_law_p", "_law_q"] (defScope s__law_apart) := ⟨rfl, rfl, rfl, by decide +kernel, rfl, by decide +kernel, by decide +kernel⟩
theorem b__law_apart (t : Tx K mg) : Binds K t.d__law_apart ["_law_p", "_law_q"] [] := t.F__law_apart.bindsN fun _ _ _ _ _ _ us hl => match us, hl with | [_, _], _ => rfl
theorem sc__law_is_between : FnScope ["_law_p", "_law_low", "_law_high", "_law_it"] ["_law_p", "_law_low", "_law_high"] (defScope s__law_is_between) := ⟨rfl, rfl, rfl, by decide +kernel, rfl, by decide +kernel, by decide +kernel⟩
theorem b__law_is_between (t : Tx K mg) : Binds K t.d__law_is_between ["_law_p", "_law_low", "_law_high"] [] := t.F__law_is_between.bindsN fun _ _ _ _ _ _ us hl => match us, hl with | [_, _, _], _ => rfl
theorem sc__law_are_right : FnScope ["_law_p", "_law_q", "_law_near", "_law_far", "_law_apart_here", "_law_it", "_law_is_one"] ["_law_p", "_law_q"] (defScope s__law_are_right) := ⟨rfl, rfl, rfl, by decide +kernel, rfl, by decide +kernel, by decide +kernel⟩
theorem b__law_are_right (t : Tx K mg) : Binds K t.d__law_are_right ["_law_p", "_law_q"] [] := t.F__law_are_right.bindsN fun _ _ _ _ _ _ us hl => match us, hl with | [_, _], _ => rfl
theorem sc_law : FnScope ["_law_script", "_law_deck_here", "_law_turn", "_law_p"] ["_law_script"] (defScope s_law) := ⟨rfl, rfl, rfl, by decide +kernel, rfl, by decide +kernel, by decide +kernel⟩
theorem b_law (t : Tx K mg) : Binds K t.d_law ["_law_script"] [] := t.F_law.bindsN fun _ _ _ _ _ _ us hl => match us, hl with | [_], _ => rfl
def T_is_plain_integer : TDS := (dRet (dAnd (dUn (gIs .int) (dVar 0)) (dNot (dUn (gIs .bool) (dVar 0)))))
def tf_is_plain_integer : TF := fun _ ds Q => tfOf 1 T_is_plain_integer (fun _ => False) ds Q
theorem ok_is_plain_integer (t : Tx K mg) : FnG P w K mg base CX0 1 t.a_is_plain_integer t.d_is_plain_integer ["thing"] (spD K 1 tf_is_plain_integer) := by
  have sc := sc_is_plain_integer
  exact fng_data (N := ["thing"]) (T := T_is_plain_integer) t.F_is_plain_integer sc fun cdv A outer s H E F hK hF room =>
    (ds_one (ds_ret (d_and (d_isi (T := .int) hK rfl t.n_isinstance rfl t.n_int (by decide +kernel) (d_var (pv 0))) (d_one (d_not (d_isi (T := .bool) hK rfl t.n_isinstance rfl t.n_bool (by decide +kernel) (d_var (pv 0))))))))
def T_is_tuple_of : TDS := (dRet (dAnd (dUn (gIs .tuple) (dVar 0)) (dBin gEq (dCB gLen (dCons (dVar 0) dNil)) (dVar 1))))
def tf_is_tuple_of : TF := fun _ ds Q => tfOf 2 T_is_tuple_of (fun _ => False) ds Q
theorem ok_is_tuple_of (t : Tx K mg) : FnG P w K mg base CX0 1 t.a_is_tuple_of t.d_is_tuple_of ["thing", "many"] (spD K 2 tf_is_tuple_of) := by
  have sc := sc_is_tuple_of
  exact fng_data (N := ["thing", "many"]) (T := T_is_tuple_of) t.F_is_tuple_of sc fun cdv A outer s H E F hK hF room =>
    (ds_one (ds_ret (d_and (d_isi (T := .tuple) hK rfl t.n_isinstance rfl t.n_tuple (by decide +kernel) (d_var (pv 0))) (d_one (d_eq hK room.r.units (d_callB (hK ▸ cd_len) call_len_seq rfl t.n_len (by decide +kernel) (da_cons (d_var (pv 0)) da_nil)) (d_var (pv 1)))))))
def T_are_plain_integers : TDS := (dRet (dAnd (dCall 2 tf_is_tuple_of (dCons (dVar 0) (dCons (dVar 1) dNil))) (dCB gAll (dCons (dLcV 0 2 dYes (dCall 1 tf_is_plain_integer (dCons (dVar 2) dNil))) dNil))))
def tf_are_plain_integers : TF := fun _ ds Q => tfOf 3 T_are_plain_integers (fun _ => False) ds Q
theorem ok_are_plain_integers (t : Tx K mg) : FnG P w K mg base CX0 2 t.a_are_plain_integers t.d_are_plain_integers ["thing", "many"] (spD K 2 tf_are_plain_integers) := by
  have sc := sc_are_plain_integers
  exact fng_data (N := ["thing", "many", "part"]) (T := T_are_plain_integers) t.F_are_plain_integers sc fun cdv A outer s H E F hK hF room =>
    (ds_one (ds_ret (d_and (d_call (ok_is_tuple_of t) hK (room.mono (by decide)) rfl t.m_is_tuple_of t.F_is_tuple_of.kp (b_is_tuple_of t) (da_cons (d_var (pv 0)) (da_cons (d_var (pv 1)) da_nil))) (d_one (d_callB (hK ▸ cd_all) (cr_all rfl) rfl t.n_all (by decide +kernel) (da_cons (d_lcV hK rfl sc.nd (pv 0) (blkOk_by (own := [("part", 2)]) (N := ["thing", "many", "part"]) (sc := defScope s_are_plain_integers) (by decide +kernel)) rfl (fun _ _ _ _ _ => pg_name (i := 2) sc.nd rfl (Or.inl rfl)) (fun _ _ _ _ _ => dts_nil) (fun _ _ _ _ _ => (d_call (ok_is_plain_integer t) hK (room.mono (by decide)) rfl t.m_is_plain_integer t.F_is_plain_integer.kp (b_is_plain_integer t) (da_cons (d_var (pv 2)) da_nil)))) da_nil))))))
def T_is_golden : TDS := (dRet (dAnd (dCall 2 tf_are_plain_integers (dCons (dVar 0) (dCons (dC (.int 3)) dNil))) (dBin gGe (dBin gIx (dVar 0) (dC (.int 2))) (dC (.int 1)))))
def tf_is_golden : TF := fun _ ds Q => tfOf 1 T_is_golden (fun _ => False) ds Q
theorem ok_is_golden (t : Tx K mg) : FnG P w K mg base CX0 3 t.a_is_golden t.d_is_golden ["thing"] (spD K 1 tf_is_golden) := by
  have sc := sc_is_golden
  exact fng_data (N := ["thing"]) (T := T_is_golden) t.F_is_golden sc fun cdv A outer s H E F hK hF room =>
    (ds_one (ds_ret (d_and (d_call (ok_are_plain_integers t) hK (room.mono (by decide)) rfl t.m_are_plain_integers t.F_are_plain_integers.kp (b_are_plain_integers t) (da_cons (d_var (pv 0)) (da_cons d_int da_nil))) (d_one (d_ge (d_ix hK (d_var (pv 0)) d_int (fun _ _ => rfl)) d_int)))))
def T__need_golden : TDS := (dIfS (dtNot (dTest (dCall 1 tf_is_golden (dCons (dVar 0) dNil))))
    dNever
    dNext)
def tf__need_golden : TF := fun _ ds Q => tfOf 1 T__need_golden (fun _ => False) ds Q
theorem ok__need_golden (t : Tx K mg) : FnG P w K mg base CX0 4 t.a__need_golden t.d__need_golden ["thing"] (spD K 1 tf__need_golden) := by
  have sc := sc__need_golden
  exact fng_data (N := ["thing"]) (T := T__need_golden) t.F__need_golden sc fun cdv A outer s H E F hK hF room =>
    (ds_one (ds_if (dt_not (dt_val (d_call (ok_is_golden t) hK (room.mono (by decide)) rfl t.m_is_golden t.F_is_golden.kp (b_is_golden t) (da_cons (d_var (pv 0)) da_nil))))
    (ds_one ds_never)
    ds_nil))
def T_sign_of_parts : TDS := (dSeq (dAsg (dBin gAdd (dBin gMul (dC (.int 2)) (dVar 0)) (dVar 1)) (dgName 2))
    (dSeq (dIfS (dtAnd (dTest (dBin gGe (dVar 2) (dC (.int 0)))) (dTest (dBin gGe (dVar 1) (dC (.int 0)))))
    (dRet (dIf (dtOr (dTest (dBin gGt (dVar 2) (dC (.int 0)))) (dTest (dBin gGt (dVar 1) (dC (.int 0))))) (dC (.int 1)) (dC (.int 0))))
    dNext)
    (dSeq (dIfS (dtAnd (dTest (dBin gLe (dVar 2) (dC (.int 0)))) (dTest (dBin gLe (dVar 1) (dC (.int 0)))))
    (dRet (dUn gNeg (dC (.int 1))))
    dNext)
    (dSeq (dAsg (dBin gGt (dBin gMul (dVar 2) (dVar 2)) (dBin gMul (dBin gMul (dC (.int 5)) (dVar 1)) (dVar 1))) (dgName 3))
    (dRet (dIf (dTest (dBin gEq (dVar 3) (dBin gGt (dVar 2) (dC (.int 0))))) (dC (.int 1)) (dUn gNeg (dC (.int 1)))))))))
def tf_sign_of_parts : TF := fun _ ds Q => tfOf 4 T_sign_of_parts (fun _ => False) ds Q
theorem ok_sign_of_parts (t : Tx K mg) : FnG P w K mg base CX0 1 t.a_sign_of_parts t.d_sign_of_parts ["a", "b"] (spD K 2 tf_sign_of_parts) := by
  have sc := sc_sign_of_parts
  exact fng_data (N := ["a", "b", "front", "does_front_win"]) (T := T_sign_of_parts) t.F_sign_of_parts sc fun cdv A outer s H E F hK hF room =>
    (ds_cons (ds_set (i := 2) sc.nd rfl (by first | exact Or.inl rfl | exact Or.inr rfl) (d_add (d_mul d_int (d_var (pv 0))) (d_var (pv 1))))
    (ds_cons (ds_if (PW.pt (dw_and (dt_ge (d_var (pv 2)) d_int) (dw_and1 (dt_ge (d_var (pv 1)) d_int))))
    (ds_one (ds_ret (d_if (PW.pt (dw_or (dt_gt (d_var (pv 2)) d_int) (dw_or1 (dt_gt (d_var (pv 1)) d_int)))) d_int d_int)))
    ds_nil)
    (ds_cons (ds_if (PW.pt (dw_and (dt_le (d_var (pv 2)) d_int) (dw_and1 (dt_le (d_var (pv 1)) d_int))))
    (ds_one (ds_ret (d_neg d_int)))
    ds_nil)
    (ds_cons (ds_set (i := 3) sc.nd rfl (by first | exact Or.inl rfl | exact Or.inr rfl) (d_gt (d_mul (d_var (pv 2)) (d_var (pv 2))) (d_mul (d_mul d_int (d_var (pv 1))) (d_var (pv 1)))))
    (ds_one (ds_ret (d_if (dt_eq hK room.r.units (d_var (pv 3)) (d_gt (d_var (pv 2)) d_int)) d_int (d_neg d_int))))))))
def T__order : TDS := (dSeq (dDrop (dCall 1 tf__need_golden (dCons (dVar 0) dNil)))
    (dSeq (dDrop (dCall 1 tf__need_golden (dCons (dVar 1) dNil)))
    (dSeq (dAsg (dVar 0) (dgTup 3 (dgCons (dgName 2) (dgCons (dgName 3) (dgCons (dgName 4) dgNil)))))
    (dSeq (dAsg (dVar 1) (dgTup 3 (dgCons (dgName 5) (dgCons (dgName 6) (dgCons (dgName 7) dgNil)))))
    (dRet (dCall 2 tf_sign_of_parts (dCons (dBin gSub (dBin gMul (dVar 2) (dVar 7)) (dBin gMul (dVar 5) (dVar 4))) (dCons (dBin gSub (dBin gMul (dVar 3) (dVar 7)) (dBin gMul (dVar 6) (dVar 4))) dNil))))))))
def tf__order : TF := fun _ ds Q => tfOf 8 T__order (fun _ => False) ds Q
theorem ok__order (t : Tx K mg) : FnG P w K mg base CX0 5 t.a__order t.d__order ["one", "other"] (spD K 2 tf__order) := by
  have sc := sc__order
  exact fng_data (N := ["one", "other", "a", "b", "d", "c", "e", "f"]) (T := T__order) t.F__order sc fun cdv A outer s H E F hK hF room =>
    (ds_cons (ds_expr (d_call (ok__need_golden t) hK (room.mono (by decide)) rfl t.m__need_golden t.F__need_golden.kp (b__need_golden t) (da_cons (d_var (pv 0)) da_nil)))
    (ds_cons (ds_expr (d_call (ok__need_golden t) hK (room.mono (by decide)) rfl t.m__need_golden t.F__need_golden.kp (b__need_golden t) (da_cons (d_var (pv 1)) da_nil)))
    (ds_cons (ds_asg (d_var (pv 0)) (dg_tup hK rfl (dgs_cons (dg_name (pg_name (i := 2) sc.nd rfl (by first | exact Or.inl rfl | exact Or.inr rfl))) (dgs_cons (dg_name (pg_name (i := 3) sc.nd rfl (by first | exact Or.inl rfl | exact Or.inr rfl))) (dgs_cons (dg_name (pg_name (i := 4) sc.nd rfl (by first | exact Or.inl rfl | exact Or.inr rfl))) dgs_nil)))))
    (ds_cons (ds_asg (d_var (pv 1)) (dg_tup hK rfl (dgs_cons (dg_name (pg_name (i := 5) sc.nd rfl (by first | exact Or.inl rfl | exact Or.inr rfl))) (dgs_cons (dg_name (pg_name (i := 6) sc.nd rfl (by first | exact Or.inl rfl | exact Or.inr rfl))) (dgs_cons (dg_name (pg_name (i := 7) sc.nd rfl (by first | exact Or.inl rfl | exact Or.inr rfl))) dgs_nil)))))
    (ds_one (ds_ret (d_call (ok_sign_of_parts t) hK (room.mono (by decide)) rfl t.m_sign_of_parts t.F_sign_of_parts.kp (b_sign_of_parts t) (da_cons (d_sub (d_mul (d_var (pv 2)) (d_var (pv 7))) (d_mul (d_var (pv 5)) (d_var (pv 4)))) (da_cons (d_sub (d_mul (d_var (pv 3)) (d_var (pv 7))) (d_mul (d_var (pv 6)) (d_var (pv 4)))) da_nil)))))))))
def T_sign : TDS := (dSeq (dDrop (dCall 1 tf__need_golden (dCons (dVar 0) dNil)))
    (dRet (dCall 2 tf_sign_of_parts (dCons (dBin gIx (dVar 0) (dC (.int 0))) (dCons (dBin gIx (dVar 0) (dC (.int 1))) dNil)))))
def tf_sign : TF := fun _ ds Q => tfOf 1 T_sign (fun _ => False) ds Q
theorem ok_sign (t : Tx K mg) : FnG P w K mg base CX0 5 t.a_sign t.d_sign ["number"] (spD K 1 tf_sign) := by
  have sc := sc_sign
  exact fng_data (N := ["number"]) (T := T_sign) t.F_sign sc fun cdv A outer s H E F hK hF room =>
    (ds_cons (ds_expr (d_call (ok__need_golden t) hK (room.mono (by decide)) rfl t.m__need_golden t.F__need_golden.kp (b__need_golden t) (da_cons (d_var (pv 0)) da_nil)))
    (ds_one (ds_ret (d_call (ok_sign_of_parts t) hK (room.mono (by decide)) rfl t.m_sign_of_parts t.F_sign_of_parts.kp (b_sign_of_parts t) (da_cons (d_ix hK (d_var (pv 0)) d_int (fun _ _ => rfl)) (da_cons (d_ix hK (d_var (pv 0)) d_int (fun _ _ => rfl)) da_nil))))))
def T_is_below : TDS := (dRet (dBin gLt (dCall 2 tf__order (dCons (dVar 0) (dCons (dVar 1) dNil))) (dC (.int 0))))
def tf_is_below : TF := fun _ ds Q => tfOf 2 T_is_below (fun _ => False) ds Q
theorem ok_is_below (t : Tx K mg) : FnG P w K mg base CX0 6 t.a_is_below t.d_is_below ["one", "other"] (spD K 2 tf_is_below) := by
  have sc := sc_is_below
  exact fng_data (N := ["one", "other"]) (T := T_is_below) t.F_is_below sc fun cdv A outer s H E F hK hF room =>
    (ds_one (ds_ret (d_lt (d_call (ok__order t) hK (room.mono (by decide)) rfl t.m__order t.F__order.kp (b__order t) (da_cons (d_var (pv 0)) (da_cons (d_var (pv 1)) da_nil))) d_int)))
def T_are_equal : TDS := (dRet (dBin gEq (dCall 2 tf__order (dCons (dVar 0) (dCons (dVar 1) dNil))) (dC (.int 0))))
def tf_are_equal : TF := fun _ ds Q => tfOf 2 T_are_equal (fun _ => False) ds Q
theorem ok_are_equal (t : Tx K mg) : FnG P w K mg base CX0 6 t.a_are_equal t.d_are_equal ["one", "other"] (spD K 2 tf_are_equal) := by
  have sc := sc_are_equal
  exact fng_data (N := ["one", "other"]) (T := T_are_equal) t.F_are_equal sc fun cdv A outer s H E F hK hF room =>
    (ds_one (ds_ret (d_eq hK room.r.units (d_call (ok__order t) hK (room.mono (by decide)) rfl t.m__order t.F__order.kp (b__order t) (da_cons (d_var (pv 0)) (da_cons (d_var (pv 1)) da_nil))) d_int)))
def T_integer_below : TDS := (dSeq (dDrop (dCall 1 tf__need_golden (dCons (dVar 0) dNil)))
    (dSeq (dAsg (dVar 0) (dgTup 3 (dgCons (dgName 1) (dgCons (dgName 2) (dgCons (dgName 3) dgNil)))))
    (dSeq (dAsg (dCB gIsqrt (dCons (dBin gMul (dBin gMul (dC (.int 5)) (dVar 2)) (dVar 2)) dNil)) (dgName 4))
    (dSeq (dIfS (dTest (dBin gLt (dVar 2) (dC (.int 0))))
    (dAsg (dBin gSub (dUn gNeg (dVar 4)) (dC (.int 1))) (dgName 4))
    dNext)
    (dRet (dBin gDiv (dBin gAdd (dBin gAdd (dBin gMul (dC (.int 2)) (dVar 1)) (dVar 2)) (dVar 4)) (dBin gMul (dC (.int 2)) (dVar 3))))))))
def tf_integer_below : TF := fun _ ds Q => tfOf 5 T_integer_below (fun _ => False) ds Q
theorem ok_integer_below (t : Tx K mg) : FnG P w K mg base CX0 5 t.a_integer_below t.d_integer_below ["number"] (spD K 1 tf_integer_below) := by
  have sc := sc_integer_below
  exact fng_data (N := ["number", "a", "b", "d", "root"]) (T := T_integer_below) t.F_integer_below sc fun cdv A outer s H E F hK hF room =>
    (ds_cons (ds_expr (d_call (ok__need_golden t) hK (room.mono (by decide)) rfl t.m__need_golden t.F__need_golden.kp (b__need_golden t) (da_cons (d_var (pv 0)) da_nil)))
    (ds_cons (ds_asg (d_var (pv 0)) (dg_tup hK rfl (dgs_cons (dg_name (pg_name (i := 1) sc.nd rfl (by first | exact Or.inl rfl | exact Or.inr rfl))) (dgs_cons (dg_name (pg_name (i := 2) sc.nd rfl (by first | exact Or.inl rfl | exact Or.inr rfl))) (dgs_cons (dg_name (pg_name (i := 3) sc.nd rfl (by first | exact Or.inl rfl | exact Or.inr rfl))) dgs_nil)))))
    (ds_cons (ds_set (i := 4) sc.nd rfl (by first | exact Or.inl rfl | exact Or.inr rfl) (d_callBf cd_isqrt cr_isqrt rfl t.i_isqrt (da_cons (d_mul (d_mul d_int (d_var (pv 2))) (d_var (pv 2))) da_nil)))
    (ds_cons (ds_if (dt_lt (d_var (pv 2)) d_int)
    (ds_one (ds_set (i := 4) sc.nd rfl (by first | exact Or.inl rfl | exact Or.inr rfl) (d_sub (d_neg (d_var (pv 4))) d_int)))
    ds_nil)
    (ds_one (ds_ret (d_div (d_add (d_add (d_mul d_int (d_var (pv 1))) (d_var (pv 2))) (d_var (pv 4))) (d_mul d_int (d_var (pv 3))))))))))
def T_integer_above : TDS := (dSeq (dDrop (dCall 1 tf__need_golden (dCons (dVar 0) dNil)))
    (dSeq (dAsg (dVar 0) (dgTup 3 (dgCons (dgName 1) (dgCons (dgName 2) (dgCons (dgName 3) dgNil)))))
    (dRet (dUn gNeg (dCall 1 tf_integer_below (dCons (dTup (dCons (dUn gNeg (dVar 1)) (dCons (dUn gNeg (dVar 2)) (dCons (dVar 3) dNil)))) dNil))))))
def tf_integer_above : TF := fun _ ds Q => tfOf 4 T_integer_above (fun _ => False) ds Q
theorem ok_integer_above (t : Tx K mg) : FnG P w K mg base CX0 6 t.a_integer_above t.d_integer_above ["number"] (spD K 1 tf_integer_above) := by
  have sc := sc_integer_above
  exact fng_data (N := ["number", "a", "b", "d"]) (T := T_integer_above) t.F_integer_above sc fun cdv A outer s H E F hK hF room =>
    (ds_cons (ds_expr (d_call (ok__need_golden t) hK (room.mono (by decide)) rfl t.m__need_golden t.F__need_golden.kp (b__need_golden t) (da_cons (d_var (pv 0)) da_nil)))
    (ds_cons (ds_asg (d_var (pv 0)) (dg_tup hK rfl (dgs_cons (dg_name (pg_name (i := 1) sc.nd rfl (by first | exact Or.inl rfl | exact Or.inr rfl))) (dgs_cons (dg_name (pg_name (i := 2) sc.nd rfl (by first | exact Or.inl rfl | exact Or.inr rfl))) (dgs_cons (dg_name (pg_name (i := 3) sc.nd rfl (by first | exact Or.inl rfl | exact Or.inr rfl))) dgs_nil)))))
    (ds_one (ds_ret (d_neg (d_call (ok_integer_below t) hK (room.mono (by decide)) rfl t.m_integer_below t.F_integer_below.kp (b_integer_below t) (da_cons (d_tup (da_cons (d_neg (d_var (pv 1))) (da_cons (d_neg (d_var (pv 2))) (da_cons (d_var (pv 3)) da_nil)))) da_nil)))))))
def T_is_whole : TDS := (dSeq (dDrop (dCall 1 tf__need_golden (dCons (dVar 0) dNil)))
    (dSeq (dAsg (dVar 0) (dgTup 3 (dgCons (dgName 1) (dgCons (dgName 2) (dgCons (dgName 3) dgNil)))))
    (dRet (dAnd (dBin gEq (dBin gMod (dVar 1) (dVar 3)) (dC (.int 0))) (dBin gEq (dBin gMod (dVar 2) (dVar 3)) (dC (.int 0)))))))
def tf_is_whole : TF := fun _ ds Q => tfOf 4 T_is_whole (fun _ => False) ds Q
theorem ok_is_whole (t : Tx K mg) : FnG P w K mg base CX0 5 t.a_is_whole t.d_is_whole ["number"] (spD K 1 tf_is_whole) := by
  have sc := sc_is_whole
  exact fng_data (N := ["number", "a", "b", "d"]) (T := T_is_whole) t.F_is_whole sc fun cdv A outer s H E F hK hF room =>
    (ds_cons (ds_expr (d_call (ok__need_golden t) hK (room.mono (by decide)) rfl t.m__need_golden t.F__need_golden.kp (b__need_golden t) (da_cons (d_var (pv 0)) da_nil)))
    (ds_cons (ds_asg (d_var (pv 0)) (dg_tup hK rfl (dgs_cons (dg_name (pg_name (i := 1) sc.nd rfl (by first | exact Or.inl rfl | exact Or.inr rfl))) (dgs_cons (dg_name (pg_name (i := 2) sc.nd rfl (by first | exact Or.inl rfl | exact Or.inr rfl))) (dgs_cons (dg_name (pg_name (i := 3) sc.nd rfl (by first | exact Or.inl rfl | exact Or.inr rfl))) dgs_nil)))))
    (ds_one (ds_ret (d_and (d_eq hK room.r.units (d_mod (d_var (pv 1)) (d_var (pv 3))) d_int) (d_one (d_eq hK room.r.units (d_mod (d_var (pv 2)) (d_var (pv 3))) d_int)))))))
theorem ok__law_deck (t : Tx K mg) : FnG P w K mg base CX0 1 t.a__law_deck t.d__law_deck ["_law_script"] (spDeck K) := by
  have sc : FnScope ["_law_script", "_law_mixed", "_law_cell"] ["_law_script"] (defScope s__law_deck) := sc__law_deck
  refine fng_of (N := ["_law_script", "_law_mixed", "_law_cell"]) t.F__law_deck sc ?_ ?_
  · rintro vs H Q E ⟨a, ns, rfl, _⟩
    rfl
  rintro cdv A outer s H vs Q E room ⟨a, ns, rfl, hS, hlen, k⟩
  refine ⟨_, PSs.nox (pss_cons (ps_set (i := 1) sc.nd rfl (.inl rfl) pe_int)
    (pss_cons (ps_for PassesOwn.never rfl (pi_list (pe_slice sl_list (pv 0) po_none (po_some pe_int))) (pg_name (i := 2) sc.nd rfl (.inl rfl))
      (pss_one (ps_set (i := 1) sc.nd rfl (.inl rfl) (pe_op op_mod (pe_callTy call_int1 (by rfl) t.n_int (by decide +kernel) (pa_cons (pe_op op_add (pe_op op_add (pe_op op_mul (pv 1) pe_int) (pe_op op_mod (pe_callTy call_int1 (by rfl) t.n_int (by decide +kernel) (pa_cons (pv 2) pa_nil)) pe_int)) pe_int) pa_nil)) pe_int))))
    (pss_one (ps_ret (pe_disp (pps_cons pe_str (pe_revL (pe_callTy call_list_of (by rfl) t.n_list (by decide +kernel) (pa_cons (pe_slice sl_list (pv 0) po_none (po_some pe_int)) pa_nil)))
      (pps_cons pe_str (pv 1) (pps_cons pe_str pe_int pps_nil))) (by rfl) (by rfl) (fun z => by cases z) (by decide)))))), ?_⟩
  obtain ⟨ms, hms, hml⟩ := cut_ints ns none (some 63)
  refine ⟨_, rfl, _, rfl, a, _, rfl, hS, fun p hp => ⟨p, rfl, ⟨_, SqL.of upd_same⟩, ?_⟩⟩
  rw [hms]
  have S1 : Same H (upd H p (.lst (ms.map V.int))) := (Same.refl H).lay hp
  refine for_list (K := K) (a := p) (xs := ms.map V.int) (fun i σ' H' => ∃ (m : Int) (v : Option V), σ' = [some (.ref a), some (.int m), v] ∧ H' = upd H p (.lst (ms.map V.int))) ⟨_, _, rfl, rfl⟩ ?_ ?_ ?_
  · rintro i σ' H' _ ⟨m, v, rfl, rfl⟩
    exact SqL.of upd_same
  · rintro i x σ' H' hx ⟨m, v, rfl, rfl⟩
    obtain ⟨u, rfl⟩ : ∃ u, x = V.int u := by
      rw [List.getElem?_map, Option.map_eq_some_iff] at hx
      obtain ⟨u, _, e⟩ := hx
      exact ⟨u, e.symm⟩
    refine ⟨_, rfl, _, _, rfl, rfl, .inr ⟨by decide, by decide⟩, _, rfl, .inl ⟨_, rfl, _, _, rfl, rfl, (by show (0 : Int) < _; decide), _, _, rfl, rfl, _, _, rfl, rfl, .inl ⟨_, rfl, _, _, rfl, rfl, (by show (0 : Int) < _; decide), ?_⟩⟩⟩
    exact ⟨_, _, rfl, rfl⟩
  · rintro σ' H' ⟨m, v, rfl, rfl⟩
    intro p2 hp2
    have S2 := S1.lay (o := .dK []) hp2
    refine ⟨_, rfl, _, rfl, a, _, rfl, S2.seq hS, fun p3 hp3 => ⟨p3, _, rfl, .inl (SqL.of upd_same), fun p4 hp4 => ⟨p4, _, rfl, SqL.of upd_same, fun l hl => ?_⟩⟩⟩
    have S3 := S2.lay (o := .lst (cutV (ns.map V.int) none (some 63))) hp3
    have S4 := S3.lay (o := .lst (cutV (ns.map V.int) none (some 63))) hp4
    have S5 := S4.lay (o := .lst (cutV (ns.map V.int) none (some 63)).reverse) hl
    have D2 : upd (upd H p (.lst (ms.map V.int))) p2 (.dK []) p2 = some (.dK []) := upd_same
    have D5 := keepU (o := .lst (cutV (ns.map V.int) none (some 63)).reverse) (keepU (o := .lst (cutV (ns.map V.int) none (some 63))) (keepU (o := .lst (cutV (ns.map V.int) none (some 63))) D2 hp3) hp4) hl
    refine ⟨_, rfl, D5, [(.inr ("left" : Str), .ref l), (.inr ("mixed" : Str), .int m), (.inr ("draws" : Str), .int 0)], rfl, (by show 3 ≤ 15; decide), ?_⟩
    rw [merge_deck]
    have nl : l ≠ p2 := (ne_of_none (keepU (o := .lst (cutV (ns.map V.int) none (some 63))) (keepU (o := .lst (cutV (ns.map V.int) none (some 63))) D2 hp3) hp4) hl).symm
    refine k _ p2 l m ms.reverse (fun q o e => ?_) (S1.free hp2) (S4.free hl) upd_same ?_ (by rw [List.length_reverse]; omega)
    · have nq : q ≠ p2 := ne_of_none e (S1.free hp2)
      rw [upd_ne nq]
      exact S5 q o e
    · rw [upd_ne nl, upd_same, hms, List.map_reverse]
theorem ok__law_draw (t : Tx K mg) : FnG P w K mg base CX0 1 t.a__law_draw t.d__law_draw ["_law_deck_here", "_law_many"] (spD K 2 tf_draw) := by
  have sc : FnScope ["_law_deck_here", "_law_many", "_law_figure", "_law_cell"] ["_law_deck_here", "_law_many"] (defScope s__law_draw) := sc__law_draw
  refine fng_of (N := ["_law_deck_here", "_law_many", "_law_figure", "_law_cell"]) t.F__law_draw sc ?_ ?_
  · rintro vs H Q E ⟨Z, B, ds, Qd, Ed, b, r, hl, _⟩
    rw [← r.length, hl]; rfl
  rintro cdv A outer s H vs Q E room ⟨Z, B, ds, Qd, Ed, b, r, hl, hT, hq, _⟩
  have hu := hu_of room.r
  obtain ⟨a, l, n, rfl, rfl, ⟨n0, n1⟩, hT⟩ := draw_reps r hT
  obtain ⟨xs, m, k, h1, h2, h3⟩ := b.deck a l rfl
  refine ⟨_, PSs.nox (pss_cons (ps_dput hu (pv 0) pe_str (pe_op op_add (pe_dget hu (pv 0) pe_str (fun _ _ => rfl)) pe_int) rfl)
    (pss_cons (ps_set (i := 2) sc.nd rfl (.inl rfl) (pe_op op_add (pe_dget hu (pv 0) pe_str (fun _ _ => rfl)) (pe_op op_mul pe_int (pe_dget hu (pv 0) pe_str (fun _ _ => rfl)))))
    (pss_cons (ps_if (pt_cmpR (op_neD room.r.units) (pe_dget hu (pv 0) pe_str (fun _ _ => rfl)) (pe_lst pa_nil) (nomark _))
      (pss_cons (ps_set (i := 3) sc.nd rfl (.inl rfl) (pe_bm0 PySem.F.plainAttrs_list PySem.F.slot_list_pop PySem.F.type_list_pop mt_pop (pe_dget hu (pv 0) pe_str (fun _ _ => rfl))))
      (pss_cons (ps_if (pt_cmpR op_ge (pv 3) (pe_op op_pow pe_int pe_int) (nomark _))
        (pss_cons (ps_expr (pe_bm PySem.F.plainAttrs_list PySem.F.slot_list_append PySem.F.type_list_append mt_append (pe_dget hu (pv 0) pe_str (fun _ _ => rfl))
          (pa_cons (pe_op op_fdiv (pv 3) (pe_callB (call_max2 rfl) (by rfl) t.n_max (by decide +kernel) (pa_cons pe_int (pa_cons (pv 1) pa_nil)))) pa_nil)))
        (pss_one (ps_ret (pe_op op_mod (pe_callTy call_int1 (by rfl) t.n_int (by decide +kernel) (pa_cons (pv 3) pa_nil)) (pv 1)))))
        pss_nil)
      (pss_one (ps_set (i := 2) sc.nd rfl (.inl rfl) (pe_op op_add (pv 2) (pe_op op_mod (pe_callTy call_int1 (by rfl) t.n_int (by decide +kernel) (pa_cons (pv 3) pa_nil)) pe_int))))))
      pss_nil)
    (pss_cons (ps_set (i := 2) sc.nd rfl (.inl rfl) (pe_op op_mod (pe_callTy call_int1 (by rfl) t.n_int (by decide +kernel) (pa_cons (pe_op op_add (pe_op op_mul (pv 2) pe_int) pe_int) pa_nil)) pe_int))
    (pss_cons (ps_set (i := 2) sc.nd rfl (.inl rfl) (pe_op op_mod (pe_callTy call_int1 (by rfl) t.n_int (by decide +kernel) (pa_cons (pe_op op_add (pe_op op_add (pe_op op_mul (pv 2) (pv 2)) (pe_op op_mul pe_int (pe_dget hu (pv 0) pe_str (fun _ _ => rfl)))) pe_int) pa_nil)) pe_int))
    (pss_cons (ps_set (i := 2) sc.nd rfl (.inl rfl) (pe_op op_mod (pe_callTy call_int1 (by rfl) t.n_int (by decide +kernel) (pa_cons (pe_op op_mul (pv 2) pe_int) pa_nil)) pe_int))
    (pss_one (ps_ret (pe_op op_mod (pe_callTy call_int1 (by rfl) t.n_int (by decide +kernel) (pa_cons (pe_op op_fdiv (pv 2) pe_int) pa_nil)) (pv 1)))))))))), ?_⟩
  have hne : a ≠ l := ne_of h1 h2 (by intro z; cases z)
  have K0 : Dk a l H H m k xs := ⟨fun _ _ _ _ e => e, h1, h2, hne⟩
  have zq : ∀ {H' : Hp} {m k : Int} {ys : List Int} {r : Int}, Dk a l H H' m k ys → ys.length ≤ 63 → 0 ≤ r → r < n → Q (.int r) H' := fun d hy r0 r1 => hq _ _ (.int _) (d.ext hy) rfl (hT _ r0 r1)
  -- the number of draws
  refine ⟨_, rfl, a, _, rfl, dg_d h1, _, _, rfl, rfl, _, rfl, a, _, rfl, dp_d h1, ?_⟩
  have K1 := K0.put (j := k + 1)
  -- the figure
  refine ⟨_, rfl, a, _, rfl, dg_m K1.dict, _, rfl, a, _, rfl, dg_d K1.dict, _, _, rfl, rfl, .inl ⟨by decide, by decide⟩, _, _, rfl, rfl, ?_⟩
  have K2 : ∀ p, (upd H a (.dK (deckKvs l m (k + 1)))) p = none → Dk a l H (upd (upd H a (.dK (deckKvs l m (k + 1)))) p (.lst [])) m (k + 1) xs := fun p hp => K1.new hp
  refine ⟨_, rfl, a, _, rfl, dg_l K1.dict, Nat.zero_le _, fun p hp => ?_⟩
  have K3 := K2 p hp
  refine ⟨.list (xs.map PyData.int), .list [], .lst (SqL.of K3.list) (dp_ints xs), .lst (SqL.of upd_same) .nil, shaped_ints xs, rfl, _, rfl, ?_⟩
  rw [eqv_ints_nil]
  generalize hb : (!xs.isEmpty) = bb
  have big : ∀ x : Int, -(2 ^ 64) < x % 2147483563 ∧ x % 2147483563 < 2 ^ 64 := fun x => by omega
  obtain e | ⟨xs', cell, e⟩ := last_of xs
  · subst e
    have hb : false = bb := hb
    subst hb
    refine iteF ?_
    have K9 := K3
    have hy : ([] : List Int).length ≤ 63 := h3
    refine ⟨_, rfl, _, _, rfl, rfl, .inr ⟨by decide, by decide⟩, _, _, rfl, rfl, .inl ⟨_, rfl, _, _, rfl, rfl, (by show (0 : Int) < _; decide), ?_⟩⟩
    refine ⟨_, rfl, _, rfl, _, _, rfl, rfl, .inl (big _), _, rfl, a, _, rfl, dg_d K9.dict, _, _, rfl, rfl, .inl ⟨by decide, by decide⟩, _, _, rfl, rfl, _, _, rfl, rfl, .inl ⟨_, rfl, _, _, rfl, rfl, (by show (0 : Int) < _; decide), ?_⟩⟩
    refine ⟨_, rfl, _, _, rfl, rfl, .inr ⟨by decide, by decide⟩, .inl ⟨_, rfl, _, _, rfl, rfl, (by show (0 : Int) < _; decide), ?_⟩⟩
    refine ⟨_, rfl, _, _, rfl, rfl, ⟨by decide, by decide⟩, .inl ⟨_, rfl, _, rfl, _, _, rfl, rfl, n0, ?_⟩⟩
    exact zq K9 hy (Int.emod_nonneg _ (by omega)) (Int.emod_lt_of_pos _ n0)
  · subst e
    have hy : xs'.length ≤ 62 := by simpa using h3
    have hb : true = bb := by rw [← hb]; simp
    subst hb
    refine iteT ?_
    refine ⟨_, rfl, a, _, rfl, dg_l K3.dict, .inl ⟨rfl, _, SqL.of K3.list⟩, l, _, .int cell, rfl, rfl, K3.list, by simp, ?_⟩
    rw [show ((xs' ++ [cell]).map V.int).dropLast = xs'.map V.int from by simp]
    have K9 := K3.set (ys := xs')
    refine ⟨_, rfl, _, _, rfl, rfl, ⟨by decide, by decide, by decide⟩, _, _, rfl, rfl, _, rfl, ?_⟩
    refine ite2 (fun _ => ?_) (fun _ => ?_)
    · refine ⟨_, rfl, a, _, rfl, dg_l K9.dict, .inl ⟨rfl, _, SqL.of K9.list⟩, _, rfl, _, rfl, _, _, rfl, _, _, rfl, rfl, ⟨by split <;> omega, by split <;> omega⟩, l, _, _, rfl, rfl, K9.list, by rw [List.length_map, sizeLine_eq]; omega, ?_⟩
      refine ⟨_, rfl, .inl ⟨_, rfl, _, rfl, _, _, rfl, rfl, n0, ?_⟩⟩
      rw [show ∀ q : Int, xs'.map V.int ++ [V.int q] = (xs' ++ [q]).map V.int from fun q => by simp]
      exact zq (K9.set (ys := xs' ++ [_])) (by simp; omega) (Int.emod_nonneg _ (by omega)) (Int.emod_lt_of_pos _ n0)
    · refine ⟨_, rfl, _, rfl, .inl ⟨_, rfl, _, _, rfl, rfl, (by show (0 : Int) < _; decide), _, _, rfl, rfl, ?_⟩⟩
      have hy : xs'.length ≤ 63 := by omega
      refine ⟨_, rfl, _, _, rfl, rfl, .inr ⟨by decide, by decide⟩, _, _, rfl, rfl, .inl ⟨_, rfl, _, _, rfl, rfl, (by show (0 : Int) < _; decide), ?_⟩⟩
      refine ⟨_, rfl, _, rfl, _, _, rfl, rfl, .inl (big _), _, rfl, a, _, rfl, dg_d K9.dict, _, _, rfl, rfl, .inl ⟨by decide, by decide⟩, _, _, rfl, rfl, _, _, rfl, rfl, .inl ⟨_, rfl, _, _, rfl, rfl, (by show (0 : Int) < _; decide), ?_⟩⟩
      refine ⟨_, rfl, _, _, rfl, rfl, .inr ⟨by decide, by decide⟩, .inl ⟨_, rfl, _, _, rfl, rfl, (by show (0 : Int) < _; decide), ?_⟩⟩
      refine ⟨_, rfl, _, _, rfl, rfl, ⟨by decide, by decide⟩, .inl ⟨_, rfl, _, rfl, _, _, rfl, rfl, n0, ?_⟩⟩
      exact zq K9 hy (Int.emod_nonneg _ (by omega)) (Int.emod_lt_of_pos _ n0)
def T__law_pick : TDS := (dRet (dBin gIx (dVar 1) (dCall 2 tf_draw (dCons (dVar 0) (dCons (dCB gLen (dCons (dVar 1) dNil)) dNil)))))
def tf__law_pick : TF := fun _ ds Q => tfOf 2 T__law_pick (fun _ => False) ds Q
theorem ok__law_pick (t : Tx K mg) : FnG P w K mg base CX0 2 t.a__law_pick t.d__law_pick ["_law_deck_here", "_law_some"] (spD K 2 tf__law_pick) := by
  have sc := sc__law_pick
  exact fng_data (N := ["_law_deck_here", "_law_some"]) (T := T__law_pick) t.F__law_pick sc fun cdv A outer s H E F hK hF room =>
    (ds_one (ds_ret (d_ix hK (d_var (pv 1)) (d_call (ok__law_draw t) hK (room.mono (by decide)) rfl t.m__law_draw t.F__law_draw.kp (b__law_draw t) (da_cons (d_var (pv 0)) (da_cons (d_callB (hK ▸ cd_len) call_len_seq rfl t.n_len (by decide +kernel) (da_cons (d_var (pv 1)) da_nil)) da_nil))) (fun _ _ => rfl))))
def T__law_integer : TDS := (dSeq (dPar3 2 3 4 (dCons (dCall 2 tf_draw (dCons (dVar 0) (dCons (dC (.int 9)) dNil))) (dCons (dBin gSub (dC (.int 1)) (dBin gMul (dC (.int 2)) (dCall 2 tf_draw (dCons (dVar 0) (dCons (dC (.int 2)) dNil))))) (dCons (dC (.int 0)) dNil))))
    (dSeq (dIfS (dTest (dBin gLt (dVar 2) (dC (.int 6))))
    (dRet (dBin gMul (dVar 3) (dCall 2 tf_draw (dCons (dVar 0) (dCons (dBin gIx (dTup (dCons (dC (.int 1)) (dCons (dC (.int 3)) (dCons (dC (.int 5)) (dCons (dC (.int 13)) (dCons (dC (.int 100)) (dCons (dC (.int 1000)) dNil))))))) (dVar 2)) dNil)))))
    dNext)
    (dSeq (dIfS (dTest (dBin gEq (dVar 2) (dC (.int 6))))
    (dRet (dBin gMul (dVar 3) (dBin gSub (dUn gNines (dBin gMul (dC (.int 6)) (dVar 1))) (dCall 2 tf_draw (dCons (dVar 0) (dCons (dC (.int 50)) dNil))))))
    dNext)
    (dSeq (dForR (dCons (dBin gAdd (dC (.int 1)) (dCall 2 tf_draw (dCons (dVar 0) (dCons (dVar 1) dNil)))) dNil) (dgName 5)
    (dAsg (dBin gAdd (dBin gMul (dVar 4) (dBin gPow (dC (.int 10)) (dC (.int 6)))) (dCall 2 tf_draw (dCons (dVar 0) (dCons (dBin gPow (dC (.int 10)) (dC (.int 6))) dNil)))) (dgName 4)))
    (dRet (dBin gMul (dVar 3) (dVar 4)))))))
def tf__law_integer : TF := fun _ ds Q => tfOf 6 T__law_integer (fun _ => False) ds Q
theorem ok__law_integer (t : Tx K mg) : FnG P w K mg base CX0 2 t.a__law_integer t.d__law_integer ["_law_deck_here", "_law_pieces"] (spD K 2 tf__law_integer) := by
  have sc := sc__law_integer
  exact fng_data (N := ["_law_deck_here", "_law_pieces", "_law_way", "_law_facing", "_law_found", "_law_piece"]) (T := T__law_integer) t.F__law_integer sc fun cdv A outer s H E F hK hF room =>
    (ds_cons (ds_par3 (i := 2) (j := 3) (l := 4) rfl sc.nd rfl rfl rfl (by decide) (by decide) (by decide) rfl rfl rfl (da_cons (d_call (ok__law_draw t) hK (room.mono (by decide)) rfl t.m__law_draw t.F__law_draw.kp (b__law_draw t) (da_cons (d_var (pv 0)) (da_cons d_int da_nil))) (da_cons (d_sub d_int (d_mul d_int (d_call (ok__law_draw t) hK (room.mono (by decide)) rfl t.m__law_draw t.F__law_draw.kp (b__law_draw t) (da_cons (d_var (pv 0)) (da_cons d_int da_nil))))) (da_cons d_int da_nil))))
    (ds_cons (ds_if (dt_lt (d_var (pv 2)) d_int)
    (ds_one (ds_ret (d_mul (d_var (pv 3)) (d_call (ok__law_draw t) hK (room.mono (by decide)) rfl t.m__law_draw t.F__law_draw.kp (b__law_draw t) (da_cons (d_var (pv 0)) (da_cons (d_ix hK (d_tup (da_cons d_int (da_cons d_int (da_cons d_int (da_cons d_int (da_cons d_int (da_cons d_int da_nil))))))) (d_var (pv 2)) (fun _ _ => rfl)) da_nil))))))
    ds_nil)
    (ds_cons (ds_if (dt_eq hK room.r.units (d_var (pv 2)) d_int)
    (ds_one (ds_ret (d_mul (d_var (pv 3)) (d_sub (d_nines rfl t.n_int (d_mul d_int (d_var (pv 1)))) (d_call (ok__law_draw t) hK (room.mono (by decide)) rfl t.m__law_draw t.F__law_draw.kp (b__law_draw t) (da_cons (d_var (pv 0)) (da_cons d_int da_nil)))))))
    ds_nil)
    (ds_cons (ds_forR1 PassesOwn.never rfl rfl t.n_range (da_cons (d_add d_int (d_call (ok__law_draw t) hK (room.mono (by decide)) rfl t.m__law_draw t.F__law_draw.kp (b__law_draw t) (da_cons (d_var (pv 0)) (da_cons (d_var (pv 1)) da_nil)))) da_nil) (dg_name (pg_name (i := 5) sc.nd rfl (by first | exact Or.inl rfl | exact Or.inr rfl)))
    (ds_one (ds_set (i := 4) sc.nd rfl (by first | exact Or.inl rfl | exact Or.inr rfl) (d_add (d_mul (d_var (pv 4)) (d_pow d_int d_int)) (d_call (ok__law_draw t) hK (room.mono (by decide)) rfl t.m__law_draw t.F__law_draw.kp (b__law_draw t) (da_cons (d_var (pv 0)) (da_cons (d_pow d_int d_int) da_nil)))))))
    (ds_one (ds_ret (d_mul (d_var (pv 3)) (d_var (pv 4)))))))))
def T__law_sign : TDS := (dSeq (dAsg (dBin gAdd (dBin gMul (dC (.int 2)) (dVar 0)) (dVar 1)) (dgName 2))
    (dSeq (dIfS (dtAnd (dTest (dBin gGe (dVar 2) (dC (.int 0)))) (dTest (dBin gGe (dVar 1) (dC (.int 0)))))
    (dRet (dCB gInt (dCons (dOr (dBin gGt (dVar 2) (dC (.int 0))) (dBin gGt (dVar 1) (dC (.int 0)))) dNil)))
    dNext)
    (dSeq (dIfS (dtAnd (dTest (dBin gLe (dVar 2) (dC (.int 0)))) (dTest (dBin gLe (dVar 1) (dC (.int 0)))))
    (dRet (dUn gNeg (dC (.int 1))))
    dNext)
    (dSeq (dIfS (dTest (dBin gGt (dVar 2) (dC (.int 0))))
    (dRet (dIf (dTest (dBin gGt (dBin gMul (dVar 2) (dVar 2)) (dBin gMul (dBin gMul (dC (.int 5)) (dVar 1)) (dVar 1)))) (dC (.int 1)) (dUn gNeg (dC (.int 1)))))
    dNext)
    (dRet (dIf (dTest (dBin gGt (dBin gMul (dBin gMul (dC (.int 5)) (dVar 1)) (dVar 1)) (dBin gMul (dVar 2) (dVar 2)))) (dC (.int 1)) (dUn gNeg (dC (.int 1)))))))))
def tf__law_sign : TF := fun _ ds Q => tfOf 3 T__law_sign (fun _ => False) ds Q
theorem ok__law_sign (t : Tx K mg) : FnG P w K mg base CX0 1 t.a__law_sign t.d__law_sign ["_law_a", "_law_b"] (spD K 2 tf__law_sign) := by
  have sc := sc__law_sign
  exact fng_data (N := ["_law_a", "_law_b", "_law_near"]) (T := T__law_sign) t.F__law_sign sc fun cdv A outer s H E F hK hF room =>
    (ds_cons (ds_set (i := 2) sc.nd rfl (by first | exact Or.inl rfl | exact Or.inr rfl) (d_add (d_mul d_int (d_var (pv 0))) (d_var (pv 1))))
    (ds_cons (ds_if (PW.pt (dw_and (dt_ge (d_var (pv 2)) d_int) (dw_and1 (dt_ge (d_var (pv 1)) d_int))))
    (ds_one (ds_ret (d_callTy cd_int call_int1 rfl t.n_int (by decide +kernel) (da_cons (d_or (d_gt (d_var (pv 2)) d_int) (d_one (d_gt (d_var (pv 1)) d_int))) da_nil))))
    ds_nil)
    (ds_cons (ds_if (PW.pt (dw_and (dt_le (d_var (pv 2)) d_int) (dw_and1 (dt_le (d_var (pv 1)) d_int))))
    (ds_one (ds_ret (d_neg d_int)))
    ds_nil)
    (ds_cons (ds_if (dt_gt (d_var (pv 2)) d_int)
    (ds_one (ds_ret (d_if (dt_gt (d_mul (d_var (pv 2)) (d_var (pv 2))) (d_mul (d_mul d_int (d_var (pv 1))) (d_var (pv 1)))) d_int (d_neg d_int))))
    ds_nil)
    (ds_one (ds_ret (d_if (dt_gt (d_mul (d_mul d_int (d_var (pv 1))) (d_var (pv 1))) (d_mul (d_var (pv 2)) (d_var (pv 2)))) d_int (d_neg d_int))))))))
def T__law_same : TDS := (dRet (dBin gEq (dCB gRepr (dCons (dVar 0) dNil)) (dCB gRepr (dCons (dVar 1) dNil))))
def tf__law_same : TF := fun _ ds Q => tfOf 2 T__law_same (fun _ => False) ds Q
theorem ok__law_same (t : Tx K mg) : FnG P w K mg base CX0 1 t.a__law_same t.d__law_same ["_law_told", "_law_due"] (spD K 2 tf__law_same) := by
  have sc := sc__law_same
  exact fng_data (N := ["_law_told", "_law_due"]) (T := T__law_same) t.F__law_same sc fun cdv A outer s H E F hK hF room =>
    (ds_one (ds_ret (d_eq hK room.r.units (d_repr hK room.g (units80 room.r) rfl t.n_repr (da_cons (d_var (pv 0)) da_nil)) (d_repr hK room.g (units80 room.r) rfl t.n_repr (da_cons (d_var (pv 1)) da_nil)))))
def T__law_thin : TDS := (dSeq (dAsg (dCall 2 tf_draw (dCons (dVar 0) (dCons (dBin gMul (dC (.int 29)) (dVar 1)) dNil))) (dgName 2))
    (dSeq (dAsg (dTup (dCons (dC (.int 1)) (dCons (dC (.int 0)) dNil))) (dgTup 2 (dgCons (dgName 3) (dgCons (dgName 4) dgNil))))
    (dSeq (dForR (dCons (dVar 2) dNil) (dgName 5)
    (dPar 3 4 (dCons (dBin gSub (dVar 3) (dVar 4)) (dCons (dUn gNeg (dVar 3)) dNil))))
    (dRet (dIf (dTest (dBin gEq (dCall 2 tf_draw (dCons (dVar 0) (dCons (dC (.int 2)) dNil))) (dC (.int 0)))) (dTup (dCons (dVar 3) (dCons (dVar 4) dNil))) (dTup (dCons (dUn gNeg (dVar 3)) (dCons (dUn gNeg (dVar 4)) dNil))))))))
def tf__law_thin : TF := fun _ ds Q => tfOf 6 T__law_thin (fun _ => False) ds Q
theorem ok__law_thin (t : Tx K mg) : FnG P w K mg base CX0 2 t.a__law_thin t.d__law_thin ["_law_deck_here", "_law_pieces"] (spD K 2 tf__law_thin) := by
  have sc := sc__law_thin
  exact fng_data (N := ["_law_deck_here", "_law_pieces", "_law_many", "_law_a", "_law_b", "_law_turn"]) (T := T__law_thin) t.F__law_thin sc fun cdv A outer s H E F hK hF room =>
    (ds_cons (ds_set (i := 2) sc.nd rfl (by first | exact Or.inl rfl | exact Or.inr rfl) (d_call (ok__law_draw t) hK (room.mono (by decide)) rfl t.m__law_draw t.F__law_draw.kp (b__law_draw t) (da_cons (d_var (pv 0)) (da_cons (d_mul d_int (d_var (pv 1))) da_nil))))
    (ds_cons (ds_asg (d_tup (da_cons d_int (da_cons d_int da_nil))) (dg_tup hK rfl (dgs_cons (dg_name (pg_name (i := 3) sc.nd rfl (by first | exact Or.inl rfl | exact Or.inr rfl))) (dgs_cons (dg_name (pg_name (i := 4) sc.nd rfl (by first | exact Or.inl rfl | exact Or.inr rfl))) dgs_nil))))
    (ds_cons (ds_forR1 PassesOwn.never rfl rfl t.n_range (da_cons (d_var (pv 2)) da_nil) (dg_name (pg_name (i := 5) sc.nd rfl (by first | exact Or.inl rfl | exact Or.inr rfl)))
    (ds_one (ds_par (i := 3) (j := 4) rfl sc.nd rfl rfl (by decide) rfl rfl (da_cons (d_sub (d_var (pv 3)) (d_var (pv 4))) (da_cons (d_neg (d_var (pv 3))) da_nil)))))
    (ds_one (ds_ret (d_if (dt_eq hK room.r.units (d_call (ok__law_draw t) hK (room.mono (by decide)) rfl t.m__law_draw t.F__law_draw.kp (b__law_draw t) (da_cons (d_var (pv 0)) (da_cons d_int da_nil))) d_int) (d_tup (da_cons (d_var (pv 3)) (da_cons (d_var (pv 4)) da_nil))) (d_tup (da_cons (d_neg (d_var (pv 3))) (da_cons (d_neg (d_var (pv 4))) da_nil)))))))))
def T__law_golden : TDS := (dSeq (dAsg (dCall 2 tf__law_pick (dCons (dVar 0) (dCons (dTup (dCons (dC (.int 1)) (dCons (dC (.int 2)) (dCons (dC (.int 3)) (dCons (dC (.int 5)) (dCons (dC (.int 4)) (dCons (dC (.int 6)) (dCons (dC (.int 10)) (dCons (dC (.int 11)) (dCons (dC (.int 12)) (dCons (dC (.int 0)) dNil))))))))))) dNil))) (dgName 2))
    (dSeq (dIfS (dTest (dBin gEq (dVar 2) (dC (.int 0))))
    (dAsg (dBin gAdd (dC (.int 1)) (dCB gAbs (dCons (dCall 2 tf__law_integer (dCons (dVar 0) (dCons (dVar 1) dNil))) dNil))) (dgName 2))
    dNext)
    (dSeq (dAsg (dCall 2 tf_draw (dCons (dVar 0) (dCons (dC (.int 5)) dNil))) (dgName 3))
    (dSeq (dIfS (dTest (dBin gEq (dVar 3) (dC (.int 0))))
    (dRet (dTup (dCons (dBin gMul (dVar 2) (dCall 2 tf__law_integer (dCons (dVar 0) (dCons (dVar 1) dNil)))) (dCons (dC (.int 0)) (dCons (dVar 2) dNil)))))
    dNext)
    (dSeq (dIfS (dTest (dBin gEq (dVar 3) (dC (.int 1))))
    (dSeq (dAsg (dCall 2 tf__law_thin (dCons (dVar 0) (dCons (dVar 1) dNil))) (dgTup 2 (dgCons (dgName 4) (dgCons (dgName 5) dgNil))))
    (dRet (dTup (dCons (dVar 4) (dCons (dVar 5) (dCons (dVar 2) dNil))))))
    dNext)
    (dSeq (dIfS (dTest (dBin gEq (dVar 3) (dC (.int 2))))
    (dSeq (dAsg (dCall 2 tf__law_thin (dCons (dVar 0) (dCons (dVar 1) dNil))) (dgTup 2 (dgCons (dgName 4) (dgCons (dgName 5) dgNil))))
    (dRet (dTup (dCons (dBin gAdd (dBin gMul (dVar 2) (dCall 2 tf__law_integer (dCons (dVar 0) (dCons (dC (.int 2)) dNil)))) (dVar 4)) (dCons (dVar 5) (dCons (dVar 2) dNil))))))
    dNext)
    (dRet (dTup (dCons (dCall 2 tf__law_integer (dCons (dVar 0) (dCons (dVar 1) dNil))) (dCons (dCall 2 tf__law_integer (dCons (dVar 0) (dCons (dVar 1) dNil))) (dCons (dVar 2) dNil)))))))))))
def tf__law_golden : TF := fun _ ds Q => tfOf 6 T__law_golden (fun _ => False) ds Q
theorem ok__law_golden (t : Tx K mg) : FnG P w K mg base CX0 3 t.a__law_golden t.d__law_golden ["_law_deck_here", "_law_pieces"] (spD K 2 tf__law_golden) := by
  have sc := sc__law_golden
  exact fng_data (N := ["_law_deck_here", "_law_pieces", "_law_d", "_law_way", "_law_a", "_law_b"]) (T := T__law_golden) t.F__law_golden sc fun cdv A outer s H E F hK hF room =>
    (ds_cons (ds_set (i := 2) sc.nd rfl (by first | exact Or.inl rfl | exact Or.inr rfl) (d_call (ok__law_pick t) hK (room.mono (by decide)) rfl t.m__law_pick t.F__law_pick.kp (b__law_pick t) (da_cons (d_var (pv 0)) (da_cons (d_tup (da_cons d_int (da_cons d_int (da_cons d_int (da_cons d_int (da_cons d_int (da_cons d_int (da_cons d_int (da_cons d_int (da_cons d_int (da_cons d_int da_nil))))))))))) da_nil))))
    (ds_cons (ds_if (dt_eq hK room.r.units (d_var (pv 2)) d_int)
    (ds_one (ds_set (i := 2) sc.nd rfl (by first | exact Or.inl rfl | exact Or.inr rfl) (d_add d_int (d_callB cd_abs call_abs rfl t.n_abs (by decide +kernel) (da_cons (d_call (ok__law_integer t) hK (room.mono (by decide)) rfl t.m__law_integer t.F__law_integer.kp (b__law_integer t) (da_cons (d_var (pv 0)) (da_cons (d_var (pv 1)) da_nil))) da_nil)))))
    ds_nil)
    (ds_cons (ds_set (i := 3) sc.nd rfl (by first | exact Or.inl rfl | exact Or.inr rfl) (d_call (ok__law_draw t) hK (room.mono (by decide)) rfl t.m__law_draw t.F__law_draw.kp (b__law_draw t) (da_cons (d_var (pv 0)) (da_cons d_int da_nil))))
    (ds_cons (ds_if (dt_eq hK room.r.units (d_var (pv 3)) d_int)
    (ds_one (ds_ret (d_tup (da_cons (d_mul (d_var (pv 2)) (d_call (ok__law_integer t) hK (room.mono (by decide)) rfl t.m__law_integer t.F__law_integer.kp (b__law_integer t) (da_cons (d_var (pv 0)) (da_cons (d_var (pv 1)) da_nil)))) (da_cons d_int (da_cons (d_var (pv 2)) da_nil))))))
    ds_nil)
    (ds_cons (ds_if (dt_eq hK room.r.units (d_var (pv 3)) d_int)
    (ds_cons (ds_asg (d_call (ok__law_thin t) hK (room.mono (by decide)) rfl t.m__law_thin t.F__law_thin.kp (b__law_thin t) (da_cons (d_var (pv 0)) (da_cons (d_var (pv 1)) da_nil))) (dg_tup hK rfl (dgs_cons (dg_name (pg_name (i := 4) sc.nd rfl (by first | exact Or.inl rfl | exact Or.inr rfl))) (dgs_cons (dg_name (pg_name (i := 5) sc.nd rfl (by first | exact Or.inl rfl | exact Or.inr rfl))) dgs_nil))))
    (ds_one (ds_ret (d_tup (da_cons (d_var (pv 4)) (da_cons (d_var (pv 5)) (da_cons (d_var (pv 2)) da_nil)))))))
    ds_nil)
    (ds_cons (ds_if (dt_eq hK room.r.units (d_var (pv 3)) d_int)
    (ds_cons (ds_asg (d_call (ok__law_thin t) hK (room.mono (by decide)) rfl t.m__law_thin t.F__law_thin.kp (b__law_thin t) (da_cons (d_var (pv 0)) (da_cons (d_var (pv 1)) da_nil))) (dg_tup hK rfl (dgs_cons (dg_name (pg_name (i := 4) sc.nd rfl (by first | exact Or.inl rfl | exact Or.inr rfl))) (dgs_cons (dg_name (pg_name (i := 5) sc.nd rfl (by first | exact Or.inl rfl | exact Or.inr rfl))) dgs_nil))))
    (ds_one (ds_ret (d_tup (da_cons (d_add (d_mul (d_var (pv 2)) (d_call (ok__law_integer t) hK (room.mono (by decide)) rfl t.m__law_integer t.F__law_integer.kp (b__law_integer t) (da_cons (d_var (pv 0)) (da_cons d_int da_nil)))) (d_var (pv 4))) (da_cons (d_var (pv 5)) (da_cons (d_var (pv 2)) da_nil)))))))
    ds_nil)
    (ds_one (ds_ret (d_tup (da_cons (d_call (ok__law_integer t) hK (room.mono (by decide)) rfl t.m__law_integer t.F__law_integer.kp (b__law_integer t) (da_cons (d_var (pv 0)) (da_cons (d_var (pv 1)) da_nil))) (da_cons (d_call (ok__law_integer t) hK (room.mono (by decide)) rfl t.m__law_integer t.F__law_integer.kp (b__law_integer t) (da_cons (d_var (pv 0)) (da_cons (d_var (pv 1)) da_nil))) (da_cons (d_var (pv 2)) da_nil))))))))))))
def T__law_other : TDS := (dSeq (dPar 3 4 (dCons (dCall 2 tf_draw (dCons (dVar 0) (dCons (dC (.int 6)) dNil))) (dCons (dBin gAdd (dC (.int 1)) (dCall 2 tf_draw (dCons (dVar 0) (dCons (dC (.int 9)) dNil)))) dNil)))
    (dSeq (dIfS (dTest (dBin gEq (dVar 3) (dC (.int 0))))
    (dRet (dTup (dCons (dBin gMul (dVar 4) (dBin gIx (dVar 1) (dC (.int 0)))) (dCons (dBin gMul (dVar 4) (dBin gIx (dVar 1) (dC (.int 1)))) (dCons (dBin gMul (dVar 4) (dBin gIx (dVar 1) (dC (.int 2)))) dNil)))))
    dNext)
    (dSeq (dIfS (dTest (dBin gLt (dVar 3) (dC (.int 4))))
    (dSeq (dAsg (dCall 2 tf__law_thin (dCons (dVar 0) (dCons (dVar 2) dNil))) (dgTup 2 (dgCons (dgName 5) (dgCons (dgName 6) dgNil))))
    (dRet (dTup (dCons (dBin gAdd (dBin gMul (dVar 4) (dBin gIx (dVar 1) (dC (.int 0)))) (dVar 5)) (dCons (dBin gAdd (dBin gMul (dVar 4) (dBin gIx (dVar 1) (dC (.int 1)))) (dVar 6)) (dCons (dBin gMul (dVar 4) (dBin gIx (dVar 1) (dC (.int 2)))) dNil))))))
    dNext)
    (dSeq (dIfS (dTest (dBin gEq (dVar 3) (dC (.int 4))))
    (dRet (dTup (dCons (dBin gIx (dVar 1) (dC (.int 0))) (dCons (dBin gSub (dBin gAdd (dBin gIx (dVar 1) (dC (.int 1))) (dC (.int 1))) (dBin gMul (dC (.int 2)) (dCall 2 tf_draw (dCons (dVar 0) (dCons (dC (.int 2)) dNil))))) (dCons (dBin gIx (dVar 1) (dC (.int 2))) dNil)))))
    dNext)
    (dRet (dCall 2 tf__law_golden (dCons (dVar 0) (dCons (dVar 2) dNil))))))))
def tf__law_other : TF := fun _ ds Q => tfOf 7 T__law_other (fun _ => False) ds Q
theorem ok__law_other (t : Tx K mg) : FnG P w K mg base CX0 4 t.a__law_other t.d__law_other ["_law_deck_here", "_law_p", "_law_pieces"] (spD K 3 tf__law_other) := by
  have sc := sc__law_other
  exact fng_data (N := ["_law_deck_here", "_law_p", "_law_pieces", "_law_way", "_law_factor", "_law_a", "_law_b"]) (T := T__law_other) t.F__law_other sc fun cdv A outer s H E F hK hF room =>
    (ds_cons (ds_par (i := 3) (j := 4) rfl sc.nd rfl rfl (by decide) rfl rfl (da_cons (d_call (ok__law_draw t) hK (room.mono (by decide)) rfl t.m__law_draw t.F__law_draw.kp (b__law_draw t) (da_cons (d_var (pv 0)) (da_cons d_int da_nil))) (da_cons (d_add d_int (d_call (ok__law_draw t) hK (room.mono (by decide)) rfl t.m__law_draw t.F__law_draw.kp (b__law_draw t) (da_cons (d_var (pv 0)) (da_cons d_int da_nil)))) da_nil)))
    (ds_cons (ds_if (dt_eq hK room.r.units (d_var (pv 3)) d_int)
    (ds_one (ds_ret (d_tup (da_cons (d_mul (d_var (pv 4)) (d_ix hK (d_var (pv 1)) d_int (fun _ _ => rfl))) (da_cons (d_mul (d_var (pv 4)) (d_ix hK (d_var (pv 1)) d_int (fun _ _ => rfl))) (da_cons (d_mul (d_var (pv 4)) (d_ix hK (d_var (pv 1)) d_int (fun _ _ => rfl))) da_nil))))))
    ds_nil)
    (ds_cons (ds_if (dt_lt (d_var (pv 3)) d_int)
    (ds_cons (ds_asg (d_call (ok__law_thin t) hK (room.mono (by decide)) rfl t.m__law_thin t.F__law_thin.kp (b__law_thin t) (da_cons (d_var (pv 0)) (da_cons (d_var (pv 2)) da_nil))) (dg_tup hK rfl (dgs_cons (dg_name (pg_name (i := 5) sc.nd rfl (by first | exact Or.inl rfl | exact Or.inr rfl))) (dgs_cons (dg_name (pg_name (i := 6) sc.nd rfl (by first | exact Or.inl rfl | exact Or.inr rfl))) dgs_nil))))
    (ds_one (ds_ret (d_tup (da_cons (d_add (d_mul (d_var (pv 4)) (d_ix hK (d_var (pv 1)) d_int (fun _ _ => rfl))) (d_var (pv 5))) (da_cons (d_add (d_mul (d_var (pv 4)) (d_ix hK (d_var (pv 1)) d_int (fun _ _ => rfl))) (d_var (pv 6))) (da_cons (d_mul (d_var (pv 4)) (d_ix hK (d_var (pv 1)) d_int (fun _ _ => rfl))) da_nil)))))))
    ds_nil)
    (ds_cons (ds_if (dt_eq hK room.r.units (d_var (pv 3)) d_int)
    (ds_one (ds_ret (d_tup (da_cons (d_ix hK (d_var (pv 1)) d_int (fun _ _ => rfl)) (da_cons (d_sub (d_add (d_ix hK (d_var (pv 1)) d_int (fun _ _ => rfl)) d_int) (d_mul d_int (d_call (ok__law_draw t) hK (room.mono (by decide)) rfl t.m__law_draw t.F__law_draw.kp (b__law_draw t) (da_cons (d_var (pv 0)) (da_cons d_int da_nil))))) (da_cons (d_ix hK (d_var (pv 1)) d_int (fun _ _ => rfl)) da_nil))))))
    ds_nil)
    (ds_one (ds_ret (d_call (ok__law_golden t) hK (room.mono (by decide)) rfl t.m__law_golden t.F__law_golden.kp (b__law_golden t) (da_cons (d_var (pv 0)) (da_cons (d_var (pv 2)) da_nil)))))))))
def T__law_apart : TDS := (dRet (dCall 2 tf__law_sign (dCons (dBin gSub (dBin gMul (dBin gIx (dVar 0) (dC (.int 0))) (dBin gIx (dVar 1) (dC (.int 2)))) (dBin gMul (dBin gIx (dVar 1) (dC (.int 0))) (dBin gIx (dVar 0) (dC (.int 2))))) (dCons (dBin gSub (dBin gMul (dBin gIx (dVar 0) (dC (.int 1))) (dBin gIx (dVar 1) (dC (.int 2)))) (dBin gMul (dBin gIx (dVar 1) (dC (.int 1))) (dBin gIx (dVar 0) (dC (.int 2))))) dNil))))
def tf__law_apart : TF := fun _ ds Q => tfOf 2 T__law_apart (fun _ => False) ds Q
theorem ok__law_apart (t : Tx K mg) : FnG P w K mg base CX0 2 t.a__law_apart t.d__law_apart ["_law_p", "_law_q"] (spD K 2 tf__law_apart) := by
  have sc := sc__law_apart
  exact fng_data (N := ["_law_p", "_law_q"]) (T := T__law_apart) t.F__law_apart sc fun cdv A outer s H E F hK hF room =>
    (ds_one (ds_ret (d_call (ok__law_sign t) hK (room.mono (by decide)) rfl t.m__law_sign t.F__law_sign.kp (b__law_sign t) (da_cons (d_sub (d_mul (d_ix hK (d_var (pv 0)) d_int (fun _ _ => rfl)) (d_ix hK (d_var (pv 1)) d_int (fun _ _ => rfl))) (d_mul (d_ix hK (d_var (pv 1)) d_int (fun _ _ => rfl)) (d_ix hK (d_var (pv 0)) d_int (fun _ _ => rfl)))) (da_cons (d_sub (d_mul (d_ix hK (d_var (pv 0)) d_int (fun _ _ => rfl)) (d_ix hK (d_var (pv 1)) d_int (fun _ _ => rfl))) (d_mul (d_ix hK (d_var (pv 1)) d_int (fun _ _ => rfl)) (d_ix hK (d_var (pv 0)) d_int (fun _ _ => rfl)))) da_nil)))))
def T__law_is_between : TDS := (dSeq (dIfS (dTest (dBin gNe (dLcT (dTup (dCons (dVar 1) (dCons (dVar 2) dNil))) 3 (dtOr (dtNot (dTest (dUn (gIs .int) (dVar 3)))) (dTest (dUn (gIs .bool) (dVar 3)))) (dVar 3)) (dLst dNil)))
    (dRet (dC (.bl false)))
    dNext)
    (dSeq (dIfS (dtOr (dTest (dBin gLt (dCall 2 tf__law_apart (dCons (dVar 0) (dCons (dTup (dCons (dVar 1) (dCons (dC (.int 0)) (dCons (dC (.int 1)) dNil)))) dNil))) (dC (.int 0)))) (dTest (dBin gGe (dCall 2 tf__law_apart (dCons (dVar 0) (dCons (dTup (dCons (dBin gAdd (dVar 1) (dC (.int 1))) (dCons (dC (.int 0)) (dCons (dC (.int 1)) dNil)))) dNil))) (dC (.int 0)))))
    (dRet (dC (.bl false)))
    dNext)
    (dRet (dAnd (dBin gLe (dCall 2 tf__law_apart (dCons (dVar 0) (dCons (dTup (dCons (dVar 2) (dCons (dC (.int 0)) (dCons (dC (.int 1)) dNil)))) dNil))) (dC (.int 0))) (dBin gGt (dCall 2 tf__law_apart (dCons (dVar 0) (dCons (dTup (dCons (dBin gSub (dVar 2) (dC (.int 1))) (dCons (dC (.int 0)) (dCons (dC (.int 1)) dNil)))) dNil))) (dC (.int 0)))))))
def tf__law_is_between : TF := fun _ ds Q => tfOf 4 T__law_is_between (fun _ => False) ds Q
theorem ok__law_is_between (t : Tx K mg) : FnG P w K mg base CX0 3 t.a__law_is_between t.d__law_is_between ["_law_p", "_law_low", "_law_high"] (spD K 3 tf__law_is_between) := by
  have sc := sc__law_is_between
  exact fng_data (N := ["_law_p", "_law_low", "_law_high", "_law_it"]) (T := T__law_is_between) t.F__law_is_between sc fun cdv A outer s H E F hK hF room =>
    (ds_cons (ds_if (dt_ne hK room.r.units (d_lcT hK rfl sc.nd (d_tup (da_cons (d_var (pv 1)) (da_cons (d_var (pv 2)) da_nil))) (blkOk_by (own := [("_law_it", 3)]) (N := ["_law_p", "_law_low", "_law_high", "_law_it"]) (sc := defScope s__law_is_between) (by decide +kernel)) rfl (fun _ _ _ _ _ => pg_name (i := 3) sc.nd rfl (Or.inl rfl)) (fun _ _ _ _ _ => (dts_one (PW.pt (dw_or (dt_not (dt_val (d_isi (T := .int) hK rfl t.n_isinstance rfl t.n_int (by decide +kernel) (d_var (pv 3))))) (dw_or1 (dt_val (d_isi (T := .bool) hK rfl t.n_isinstance rfl t.n_bool (by decide +kernel) (d_var (pv 3))))))))) (fun _ _ _ _ _ => (d_var (pv 3)))) (d_lst da_nil))
    (ds_one (ds_ret d_bl))
    ds_nil)
    (ds_cons (ds_if (PW.pt (dw_or (dt_lt (d_call (ok__law_apart t) hK (room.mono (by decide)) rfl t.m__law_apart t.F__law_apart.kp (b__law_apart t) (da_cons (d_var (pv 0)) (da_cons (d_tup (da_cons (d_var (pv 1)) (da_cons d_int (da_cons d_int da_nil)))) da_nil))) d_int) (dw_or1 (dt_ge (d_call (ok__law_apart t) hK (room.mono (by decide)) rfl t.m__law_apart t.F__law_apart.kp (b__law_apart t) (da_cons (d_var (pv 0)) (da_cons (d_tup (da_cons (d_add (d_var (pv 1)) d_int) (da_cons d_int (da_cons d_int da_nil)))) da_nil))) d_int))))
    (ds_one (ds_ret d_bl))
    ds_nil)
    (ds_one (ds_ret (d_and (d_le (d_call (ok__law_apart t) hK (room.mono (by decide)) rfl t.m__law_apart t.F__law_apart.kp (b__law_apart t) (da_cons (d_var (pv 0)) (da_cons (d_tup (da_cons (d_var (pv 2)) (da_cons d_int (da_cons d_int da_nil)))) da_nil))) d_int) (d_one (d_gt (d_call (ok__law_apart t) hK (room.mono (by decide)) rfl t.m__law_apart t.F__law_apart.kp (b__law_apart t) (da_cons (d_var (pv 0)) (da_cons (d_tup (da_cons (d_sub (d_var (pv 2)) d_int) (da_cons d_int (da_cons d_int da_nil)))) da_nil))) d_int)))))))
theorem kb_are_equal_one_other (t : Tx K mg) : KB t.d_are_equal ["one", "other"] ["one", "other"] [0, 1] := kb_of t.F_are_equal fun _ _ _ _ _ _ ws hl => match ws, hl with | [_, _], _ => rfl
theorem kb_integer_above_number (t : Tx K mg) : KB t.d_integer_above ["number"] ["number"] [0] := kb_of t.F_integer_above fun _ _ _ _ _ _ ws hl => match ws, hl with | [_], _ => rfl
theorem kb_integer_below_number (t : Tx K mg) : KB t.d_integer_below ["number"] ["number"] [0] := kb_of t.F_integer_below fun _ _ _ _ _ _ ws hl => match ws, hl with | [_], _ => rfl
theorem kb_is_below_other_one (t : Tx K mg) : KB t.d_is_below ["one", "other"] ["other", "one"] [1, 0] := kb_of t.F_is_below fun _ _ _ _ _ _ ws hl => match ws, hl with | [_, _], _ => rfl
theorem kb_is_whole_number (t : Tx K mg) : KB t.d_is_whole ["number"] ["number"] [0] := kb_of t.F_is_whole fun _ _ _ _ _ _ ws hl => match ws, hl with | [_], _ => rfl
theorem kb_sign_number (t : Tx K mg) : KB t.d_sign ["number"] ["number"] [0] := kb_of t.F_sign fun _ _ _ _ _ _ ws hl => match ws, hl with | [_], _ => rfl
def T__law_are_right : TDS := (dSeq (dPar3 2 3 4 (dCons (dCall 2 tf__law_sign (dCons (dBin gIx (dVar 0) (dC (.int 0))) (dCons (dBin gIx (dVar 0) (dC (.int 1))) dNil))) (dCons (dCall 2 tf__law_sign (dCons (dBin gIx (dVar 1) (dC (.int 0))) (dCons (dBin gIx (dVar 1) (dC (.int 1))) dNil))) (dCons (dCall 2 tf__law_apart (dCons (dVar 0) (dCons (dVar 1) dNil))) dNil))))
    (dSeq (dIfS (dtNot (dTest (dCall 2 tf__law_same (dCons (dTup (dCons (dCall 1 tf_sign (dCons (dVar 0) dNil)) (dCons (dCall 1 tf_sign (dCons (dVar 1) dNil)) (dCons (dCallK 1 1 [0] tf_sign (dCons (dVar 0) dNil)) dNil)))) (dCons (dTup (dCons (dVar 2) (dCons (dVar 3) (dCons (dVar 2) dNil)))) dNil)))))
    (dRet (dC (.bl false)))
    dNext)
    (dSeq (dIfS (dtNot (dTest (dCall 2 tf__law_same (dCons (dTup (dCons (dCall 2 tf_is_below (dCons (dVar 0) (dCons (dVar 1) dNil))) (dCons (dCall 2 tf_is_below (dCons (dVar 1) (dCons (dVar 0) dNil))) (dCons (dCallK 2 2 [1, 0] tf_is_below (dCons (dVar 1) (dCons (dVar 0) dNil))) dNil)))) (dCons (dTup (dCons (dBin gLt (dVar 4) (dC (.int 0))) (dCons (dBin gGt (dVar 4) (dC (.int 0))) (dCons (dBin gLt (dVar 4) (dC (.int 0))) dNil)))) dNil)))))
    (dRet (dC (.bl false)))
    dNext)
    (dSeq (dIfS (dtNot (dTest (dCall 2 tf__law_same (dCons (dTup (dCons (dCall 2 tf_are_equal (dCons (dVar 0) (dCons (dVar 1) dNil))) (dCons (dCallK 2 2 [0, 1] tf_are_equal (dCons (dVar 1) (dCons (dVar 0) dNil))) (dCons (dCall 2 tf_are_equal (dCons (dVar 0) (dCons (dVar 0) dNil))) dNil)))) (dCons (dTup (dCons (dBin gEq (dVar 4) (dC (.int 0))) (dCons (dBin gEq (dVar 4) (dC (.int 0))) (dCons (dC (.bl true)) dNil)))) dNil)))))
    (dRet (dC (.bl false)))
    dNext)
    (dSeq (dForT (dTup (dCons (dVar 0) (dCons (dVar 1) dNil))) (dgName 5)
    (dSeq (dAsg (dAnd (dBin gEq (dBin gMod (dCB gInt (dCons (dBin gIx (dVar 5) (dC (.int 0))) dNil)) (dBin gIx (dVar 5) (dC (.int 2)))) (dC (.int 0))) (dBin gEq (dBin gMod (dCB gInt (dCons (dBin gIx (dVar 5) (dC (.int 1))) dNil)) (dBin gIx (dVar 5) (dC (.int 2)))) (dC (.int 0)))) (dgName 6))
    (dSeq (dIfS (dtNot (dTest (dCall 2 tf__law_same (dCons (dTup (dCons (dCall 1 tf_is_whole (dCons (dVar 5) dNil)) (dCons (dCallK 1 1 [0] tf_is_whole (dCons (dVar 5) dNil)) dNil))) (dCons (dTup (dCons (dVar 6) (dCons (dVar 6) dNil))) dNil)))))
    (dRet (dC (.bl false)))
    dNext)
    (dIfS (dtNot (dTest (dCall 3 tf__law_is_between (dCons (dVar 5) (dCons (dCall 1 tf_integer_below (dCons (dVar 5) dNil)) (dCons (dCall 1 tf_integer_above (dCons (dVar 5) dNil)) dNil))))))
    (dRet (dC (.bl false)))
    dNext))))
    (dRet (dCall 3 tf__law_is_between (dCons (dVar 0) (dCons (dCallK 1 1 [0] tf_integer_below (dCons (dVar 0) dNil)) (dCons (dCallK 1 1 [0] tf_integer_above (dCons (dVar 0) dNil)) dNil))))))))))
def tf__law_are_right : TF := fun _ ds Q => tfOf 7 T__law_are_right (fun _ => False) ds Q
theorem ok__law_are_right (t : Tx K mg) : FnG P w K mg base CX0 7 t.a__law_are_right t.d__law_are_right ["_law_p", "_law_q"] (spD K 2 tf__law_are_right) := by
  have sc := sc__law_are_right
  exact fng_data (N := ["_law_p", "_law_q", "_law_near", "_law_far", "_law_apart_here", "_law_it", "_law_is_one"]) (T := T__law_are_right) t.F__law_are_right sc fun cdv A outer s H E F hK hF room =>
    (ds_cons (ds_par3 (i := 2) (j := 3) (l := 4) rfl sc.nd rfl rfl rfl (by decide) (by decide) (by decide) rfl rfl rfl (da_cons (d_call (ok__law_sign t) hK (room.mono (by decide)) rfl t.m__law_sign t.F__law_sign.kp (b__law_sign t) (da_cons (d_ix hK (d_var (pv 0)) d_int (fun _ _ => rfl)) (da_cons (d_ix hK (d_var (pv 0)) d_int (fun _ _ => rfl)) da_nil))) (da_cons (d_call (ok__law_sign t) hK (room.mono (by decide)) rfl t.m__law_sign t.F__law_sign.kp (b__law_sign t) (da_cons (d_ix hK (d_var (pv 1)) d_int (fun _ _ => rfl)) (da_cons (d_ix hK (d_var (pv 1)) d_int (fun _ _ => rfl)) da_nil))) (da_cons (d_call (ok__law_apart t) hK (room.mono (by decide)) rfl t.m__law_apart t.F__law_apart.kp (b__law_apart t) (da_cons (d_var (pv 0)) (da_cons (d_var (pv 1)) da_nil))) da_nil))))
    (ds_cons (ds_if (dt_not (dt_val (d_call (ok__law_same t) hK (room.mono (by decide)) rfl t.m__law_same t.F__law_same.kp (b__law_same t) (da_cons (d_tup (da_cons (d_call (ok_sign t) hK (room.mono (by decide)) rfl t.m_sign t.F_sign.kp (b_sign t) (da_cons (d_var (pv 0)) da_nil)) (da_cons (d_call (ok_sign t) hK (room.mono (by decide)) rfl t.m_sign t.F_sign.kp (b_sign t) (da_cons (d_var (pv 1)) da_nil)) (da_cons (d_callK (ok_sign t) hK (room.mono (by decide)) rfl t.m_sign t.F_sign.kp (kb_sign_number t) (dk_cons (d_var (pv 0)) dk_nil)) da_nil)))) (da_cons (d_tup (da_cons (d_var (pv 2)) (da_cons (d_var (pv 3)) (da_cons (d_var (pv 2)) da_nil)))) da_nil)))))
    (ds_one (ds_ret d_bl))
    ds_nil)
    (ds_cons (ds_if (dt_not (dt_val (d_call (ok__law_same t) hK (room.mono (by decide)) rfl t.m__law_same t.F__law_same.kp (b__law_same t) (da_cons (d_tup (da_cons (d_call (ok_is_below t) hK (room.mono (by decide)) rfl t.m_is_below t.F_is_below.kp (b_is_below t) (da_cons (d_var (pv 0)) (da_cons (d_var (pv 1)) da_nil))) (da_cons (d_call (ok_is_below t) hK (room.mono (by decide)) rfl t.m_is_below t.F_is_below.kp (b_is_below t) (da_cons (d_var (pv 1)) (da_cons (d_var (pv 0)) da_nil))) (da_cons (d_callK (ok_is_below t) hK (room.mono (by decide)) rfl t.m_is_below t.F_is_below.kp (kb_is_below_other_one t) (dk_cons (d_var (pv 1)) (dk_cons (d_var (pv 0)) dk_nil))) da_nil)))) (da_cons (d_tup (da_cons (d_lt (d_var (pv 4)) d_int) (da_cons (d_gt (d_var (pv 4)) d_int) (da_cons (d_lt (d_var (pv 4)) d_int) da_nil)))) da_nil)))))
    (ds_one (ds_ret d_bl))
    ds_nil)
    (ds_cons (ds_if (dt_not (dt_val (d_call (ok__law_same t) hK (room.mono (by decide)) rfl t.m__law_same t.F__law_same.kp (b__law_same t) (da_cons (d_tup (da_cons (d_call (ok_are_equal t) hK (room.mono (by decide)) rfl t.m_are_equal t.F_are_equal.kp (b_are_equal t) (da_cons (d_var (pv 0)) (da_cons (d_var (pv 1)) da_nil))) (da_cons (d_callK (ok_are_equal t) hK (room.mono (by decide)) rfl t.m_are_equal t.F_are_equal.kp (kb_are_equal_one_other t) (dk_cons (d_var (pv 1)) (dk_cons (d_var (pv 0)) dk_nil))) (da_cons (d_call (ok_are_equal t) hK (room.mono (by decide)) rfl t.m_are_equal t.F_are_equal.kp (b_are_equal t) (da_cons (d_var (pv 0)) (da_cons (d_var (pv 0)) da_nil))) da_nil)))) (da_cons (d_tup (da_cons (d_eq hK room.r.units (d_var (pv 4)) d_int) (da_cons (d_eq hK room.r.units (d_var (pv 4)) d_int) (da_cons d_bl da_nil)))) da_nil)))))
    (ds_one (ds_ret d_bl))
    ds_nil)
    (ds_cons (ds_forT hK PassesOwn.never rfl (d_tup (da_cons (d_var (pv 0)) (da_cons (d_var (pv 1)) da_nil))) (dg_name (pg_name (i := 5) sc.nd rfl (by first | exact Or.inl rfl | exact Or.inr rfl)))
    (ds_cons (ds_set (i := 6) sc.nd rfl (by first | exact Or.inl rfl | exact Or.inr rfl) (d_and (d_eq hK room.r.units (d_mod (d_callTy cd_int call_int1 rfl t.n_int (by decide +kernel) (da_cons (d_ix hK (d_var (pv 5)) d_int (fun _ _ => rfl)) da_nil)) (d_ix hK (d_var (pv 5)) d_int (fun _ _ => rfl))) d_int) (d_one (d_eq hK room.r.units (d_mod (d_callTy cd_int call_int1 rfl t.n_int (by decide +kernel) (da_cons (d_ix hK (d_var (pv 5)) d_int (fun _ _ => rfl)) da_nil)) (d_ix hK (d_var (pv 5)) d_int (fun _ _ => rfl))) d_int))))
    (ds_cons (ds_if (dt_not (dt_val (d_call (ok__law_same t) hK (room.mono (by decide)) rfl t.m__law_same t.F__law_same.kp (b__law_same t) (da_cons (d_tup (da_cons (d_call (ok_is_whole t) hK (room.mono (by decide)) rfl t.m_is_whole t.F_is_whole.kp (b_is_whole t) (da_cons (d_var (pv 5)) da_nil)) (da_cons (d_callK (ok_is_whole t) hK (room.mono (by decide)) rfl t.m_is_whole t.F_is_whole.kp (kb_is_whole_number t) (dk_cons (d_var (pv 5)) dk_nil)) da_nil))) (da_cons (d_tup (da_cons (d_var (pv 6)) (da_cons (d_var (pv 6)) da_nil))) da_nil)))))
    (ds_one (ds_ret d_bl))
    ds_nil)
    (ds_one (ds_if (dt_not (dt_val (d_call (ok__law_is_between t) hK (room.mono (by decide)) rfl t.m__law_is_between t.F__law_is_between.kp (b__law_is_between t) (da_cons (d_var (pv 5)) (da_cons (d_call (ok_integer_below t) hK (room.mono (by decide)) rfl t.m_integer_below t.F_integer_below.kp (b_integer_below t) (da_cons (d_var (pv 5)) da_nil)) (da_cons (d_call (ok_integer_above t) hK (room.mono (by decide)) rfl t.m_integer_above t.F_integer_above.kp (b_integer_above t) (da_cons (d_var (pv 5)) da_nil)) da_nil))))))
    (ds_one (ds_ret d_bl))
    ds_nil)))))
    (ds_one (ds_ret (d_call (ok__law_is_between t) hK (room.mono (by decide)) rfl t.m__law_is_between t.F__law_is_between.kp (b__law_is_between t) (da_cons (d_var (pv 0)) (da_cons (d_callK (ok_integer_below t) hK (room.mono (by decide)) rfl t.m_integer_below t.F_integer_below.kp (kb_integer_below_number t) (dk_cons (d_var (pv 0)) dk_nil)) (da_cons (d_callK (ok_integer_above t) hK (room.mono (by decide)) rfl t.m_integer_above t.F_integer_above.kp (kb_integer_above_number t) (dk_cons (d_var (pv 0)) dk_nil)) da_nil)))))))))))
def T_law : TDS := (dSeq (dForR (dCons (dC (.int 6)) dNil) (dgName 2)
    (dSeq (dAsg (dCall 2 tf__law_golden (dCons (dVar 1) (dCons (dC (.int 10)) dNil))) (dgName 3))
    (dIfS (dtNot (dTest (dCall 2 tf__law_are_right (dCons (dVar 3) (dCons (dCall 3 tf__law_other (dCons (dVar 1) (dCons (dVar 3) (dCons (dC (.int 10)) dNil)))) dNil)))))
    (dRet (dC (.bl false)))
    dNext)))
    (dSeq (dIfS (dTest (dBin gEq (dCall 2 tf_draw (dCons (dVar 1) (dCons (dC (.int 8)) dNil))) (dC (.int 0))))
    (dSeq (dAsg (dCall 2 tf__law_golden (dCons (dVar 1) (dCons (dC (.int 80)) dNil))) (dgName 3))
    (dRet (dCall 2 tf__law_are_right (dCons (dVar 3) (dCons (dCall 3 tf__law_other (dCons (dVar 1) (dCons (dVar 3) (dCons (dC (.int 80)) dNil)))) dNil)))))
    dNext)
    (dRet (dC (.bl true)))))
theorem ok_law (t : Tx K mg) : FnG P w K mg base CX0 8 t.a_law t.d_law ["_law_script"] (spLaw K 2 T_law) := by
  have sc := sc_law
  refine fng_of (N := ["_law_script", "_law_deck_here", "_law_turn", "_law_p"]) t.F_law sc ?_ ?_
  · rintro vs H Q E ⟨a, ns, rfl, _⟩
    rfl
  rintro cdv A outer s H vs Q E room ⟨a, ns, rfl, hS, hlen, hT, hQ⟩
  have rest : ∀ F : FP, F.K = K → PSs (cxOf CX0 P w K mg base ["_law_script", "_law_deck_here", "_law_turn", "_law_p"] "law" (defScope s_law) t.a_law cdv A outer s H E).nox (defBody s_law).tail (sD F T_law) := fun F hK =>
    (ds_cons (ds_forR1 PassesOwn.never rfl rfl t.n_range (da_cons d_int da_nil) (dg_name (pg_name (i := 2) sc.nd rfl (by first | exact Or.inl rfl | exact Or.inr rfl)))
    (ds_cons (ds_set (i := 3) sc.nd rfl (by first | exact Or.inl rfl | exact Or.inr rfl) (d_call (ok__law_golden t) hK (room.mono (by decide)) rfl t.m__law_golden t.F__law_golden.kp (b__law_golden t) (da_cons (d_var (pv 1)) (da_cons d_int da_nil))))
    (ds_one (ds_if (dt_not (dt_val (d_call (ok__law_are_right t) hK (room.mono (by decide)) rfl t.m__law_are_right t.F__law_are_right.kp (b__law_are_right t) (da_cons (d_var (pv 3)) (da_cons (d_call (ok__law_other t) hK (room.mono (by decide)) rfl t.m__law_other t.F__law_other.kp (b__law_other t) (da_cons (d_var (pv 1)) (da_cons (d_var (pv 3)) (da_cons d_int da_nil)))) da_nil)))))
    (ds_one (ds_ret d_bl))
    ds_nil))))
    (ds_cons (ds_if (dt_eq hK room.r.units (d_call (ok__law_draw t) hK (room.mono (by decide)) rfl t.m__law_draw t.F__law_draw.kp (b__law_draw t) (da_cons (d_var (pv 1)) (da_cons d_int da_nil))) d_int)
    (ds_cons (ds_set (i := 3) sc.nd rfl (by first | exact Or.inl rfl | exact Or.inr rfl) (d_call (ok__law_golden t) hK (room.mono (by decide)) rfl t.m__law_golden t.F__law_golden.kp (b__law_golden t) (da_cons (d_var (pv 1)) (da_cons d_int da_nil))))
    (ds_one (ds_ret (d_call (ok__law_are_right t) hK (room.mono (by decide)) rfl t.m__law_are_right t.F__law_are_right.kp (b__law_are_right t) (da_cons (d_var (pv 3)) (da_cons (d_call (ok__law_other t) hK (room.mono (by decide)) rfl t.m__law_other t.F__law_other.kp (b__law_other t) (da_cons (d_var (pv 1)) (da_cons (d_var (pv 3)) (da_cons d_int da_nil)))) da_nil))))))
    ds_nil)
    (ds_one (ds_ret d_bl))))
  refine ⟨_, PSs.nox (pss_cons (ps_set (i := 1) sc.nd rfl (by first | exact Or.inl rfl | exact Or.inr rfl) (pe_callG (ok__law_deck t) (room.mono (by decide)) rfl t.m__law_deck t.F__law_deck.kp (b__law_deck t) .nil pass0 (pa_cons (pv 0) pa_nil))) (PSs.exF rest)), ?_⟩
  refine ⟨_, rfl, a, ns, rfl, hS, hlen, fun H' d l m xs hs h1 h2 h3 h4 h5 => ?_⟩
  exact law_rest h3 h4 h5 hT hQ
end
end K07
set_option maxHeartbeats 4000000
set_option maxRecDepth 100000
namespace K07
open PySem PySem.Spec L2 DL
variable {ξ : XW} {Q : D → Prop} {s2 : Slot}
theorem e_ipi {i : Int} (h : Q (.bl true)) : tf_is_plain_integer ξ [.int i] Q := ⟨rfl, rfl, h⟩
theorem e_ito {ds : List D} {n : Int} (h : Q (.bl (decide ((ds.length : Int) = n)))) : tf_is_tuple_of ξ [.tup ds, .int n] Q := ⟨rfl, h⟩
abbrev T3 (a b c : Int) : D := .tup [.int a, .int b, .int c]
theorem e_api {a b c : Int} (h : Q (.bl true)) : tf_are_plain_integers ξ [T3 a b c, .int 3] Q :=
  ⟨rfl, e_ito ⟨sz (n := 3) (by decide), rfl, e_ipi ⟨rfl, e_ipi ⟨rfl, e_ipi h⟩⟩⟩⟩
theorem e_golden {a b d : Int} (hd : 1 ≤ d) (h : Q (.bl true)) : tf_is_golden ξ [T3 a b d] Q :=
  ⟨rfl, e_api (show Q (.bl (decide (1 ≤ d))) from by rw [decide_eq_true hd]; exact h)⟩
theorem e_need {a b d : Int} (hd : 1 ≤ d) (h : Q .non) : tf__need_golden ξ [T3 a b d] Q := ⟨rfl, e_golden hd h⟩
/-- the sign of n + b w -/
def sgn (n b : Int) : Int :=
  if 0 ≤ n ∧ 0 ≤ b then (if 0 < n ∨ 0 < b then 1 else 0) else if n ≤ 0 ∧ b ≤ 0 then -1 else if 0 < n then (if 5 * b * b < n * n then 1 else -1) else (if n * n < 5 * b * b then 1 else -1)
theorem root5 : ∀ (k : Nat) (n b : Nat), n ≤ k → n * n = 5 * (b * b) → n = 0
  | 0, n, b, h, _ => by omega
  | k + 1, n, b, h, e => by
    have h5 : n % 5 = 0 := by
      have : (n * n) % 5 = 0 := by omega
      rw [Nat.mul_mod] at this
      have l : n % 5 < 5 := Nat.mod_lt _ (by decide)
      generalize n % 5 = r at *
      match r, l with
      | 0, _ => rfl
      | 1, _ => simp at this
      | 2, _ => simp at this
      | 3, _ => simp at this
      | 4, _ => simp at this
    obtain ⟨m, rfl⟩ : ∃ m, n = 5 * m := ⟨n / 5, by omega⟩
    have e2 : b * b = 5 * (m * m) := by
      have : 5 * m * (5 * m) = 25 * (m * m) := by rw [Nat.mul_mul_mul_comm]
      omega
    have hm : m * m ≤ m * m := Nat.le_refl _
    by_cases hm0 : m = 0
    · omega
    · have hb : b ≤ 5 * m - 1 := by
        by_cases hb : b ≤ 5 * m - 1
        · exact hb
        · have h1 : 5 * m ≤ b := by omega
          have h2 := Nat.mul_le_mul h1 h1
          have : 5 * m * (5 * m) = 25 * (m * m) := by rw [Nat.mul_mul_mul_comm]
          have p : 0 < m * m := Nat.mul_pos (by omega) (by omega)
          omega
      have hb0 := root5 k b m (by omega) e2
      subst hb0
      have p : 0 < m * m := Nat.mul_pos (by omega) (by omega)
      omega
theorem noroot {n b : Int} (h : n * n = 5 * b * b) : n = 0 ∧ b = 0 := by
  have e : n.natAbs * n.natAbs = 5 * (b.natAbs * b.natAbs) := by
    have h1 : ((n.natAbs * n.natAbs : Nat) : Int) = n * n := Int.natAbs_mul_self
    have h2 : ((b.natAbs * b.natAbs : Nat) : Int) = b * b := Int.natAbs_mul_self
    have : 5 * b * b = 5 * (b * b) := Int.mul_assoc 5 b b
    omega
  have z := root5 _ _ _ (Nat.le_refl _) e
  have hn : n = 0 := by omega
  subst hn
  refine ⟨rfl, ?_⟩
  rw [z] at e
  have : b.natAbs * b.natAbs = 0 := by omega
  rcases Nat.mul_eq_zero.mp this with q | q <;> omega
theorem ifb {p q : Prop} [Decidable p] [Decidable q] {A B : Prop} (h1 : (p ↔ q) → A) (h2 : ¬ (p ↔ q) → B) : if (decide p == decide q) = true then A else B := by
  by_cases hp : p <;> by_cases hq : q
  · rw [decide_eq_true hp, decide_eq_true hq]; exact h1 ⟨fun _ => hq, fun _ => hp⟩
  · rw [decide_eq_true hp, decide_eq_false hq]; exact h2 fun z => hq (z.mp hp)
  · rw [decide_eq_false hp, decide_eq_true hq]; exact h2 fun z => hp (z.mpr hq)
  · rw [decide_eq_false hp, decide_eq_false hq]; exact h1 ⟨fun z => (hp z).elim, fun z => (hq z).elim⟩
abbrev B := 100000
theorem five {b : Int} (hb : Bd B b) : Bd (B + 3) (5 * b) := (Bd.mul (n := 3) Bd.lit hb).mono (by decide)
theorem bdn {a b : Int} (ha : Bd B a) (hb : Bd B b) : Bd (B + 3) (2 * a + b) := ((Bd.mul (n := 2) Bd.lit ha).mono (m := B + 2) (by decide)).add (hb.mono (by decide))
theorem e_lsign {a b : Int} (ha : Bd B a) (hb : Bd B b) (h : Q (.int (sgn (2 * a + b) b))) : tf__law_sign ξ [.int a, .int b] Q := by
  have hn := bdn ha hb
  refine ⟨Bd.cmul (n := 2) Bd.lit ha, ?_⟩
  refine ifd (fun h1 => ?_) (fun h1 => ?_)
  · refine ifd (fun h2 => ?_) (fun h2 => ?_)
    · refine ifd (fun h3 => ?_) (fun h3 => ?_)
      · (have e : sgn (2 * a + b) b = 1 := by (unfold sgn; (repeat' split) <;> first | rfl | omega)); rw [e] at h; exact h
      · show Q (.int (if decide (0 < b) = true then 1 else 0))
        by_cases h4 : 0 < b
        · rw [decide_eq_true h4]
          (have e : sgn (2 * a + b) b = 1 := by (unfold sgn; (repeat' split) <;> first | rfl | omega)); rw [e] at h; exact h
        · rw [decide_eq_false h4]
          (have e : sgn (2 * a + b) b = 0 := by (unfold sgn; (repeat' split) <;> first | rfl | omega)); rw [e] at h; exact h
    · refine ifd (fun h3 => ?_) (fun h3 => ?_)
      · refine ifd (fun h4 => ?_) (fun h4 => ?_)
        · (have e : sgn (2 * a + b) b = -1 := by (unfold sgn; (repeat' split) <;> first | rfl | omega)); rw [e] at h; exact h
        · omega
      · refine ifd (fun h4 => ?_) (fun h4 => ?_)
        · refine ⟨Bd.cmul hn hn, Bd.cmul (n := 3) Bd.lit hb, Bd.cmul (five hb) hb, ?_⟩
          refine ifd (fun h5 => ?_) (fun h5 => ?_)
          · (have e : sgn (2 * a + b) b = 1 := by (unfold sgn; (repeat' split) <;> first | rfl | omega)); rw [e] at h; exact h
          · (have e : sgn (2 * a + b) b = -1 := by (unfold sgn; (repeat' split) <;> first | rfl | omega)); rw [e] at h; exact h
        · omega
  · refine ifd (fun h3 => ?_) (fun h3 => ?_)
    · refine ifd (fun h4 => ?_) (fun h4 => ?_)
      · (have e : sgn (2 * a + b) b = -1 := by (unfold sgn; (repeat' split) <;> first | rfl | omega)); rw [e] at h; exact h
      · refine ifd (fun h5 => ?_) (fun h5 => ?_)
        · omega
        · refine ⟨Bd.cmul (n := 3) Bd.lit hb, Bd.cmul (five hb) hb, Bd.cmul hn hn, ?_⟩
          refine ifd (fun h5 => ?_) (fun h5 => ?_)
          · (have e : sgn (2 * a + b) b = 1 := by (unfold sgn; (repeat' split) <;> first | rfl | omega)); rw [e] at h; exact h
          · (have e : sgn (2 * a + b) b = -1 := by (unfold sgn; (repeat' split) <;> first | rfl | omega)); rw [e] at h; exact h
    · omega
theorem e_sop {a b : Int} (ha : Bd B a) (hb : Bd B b) (h : Q (.int (sgn (2 * a + b) b))) : tf_sign_of_parts ξ [.int a, .int b] Q := by
  have hn := bdn ha hb
  have nr := @noroot (2 * a + b) b
  refine ⟨Bd.cmul (n := 2) Bd.lit ha, ?_⟩
  refine ifd (fun h1 => ?_) (fun h1 => ?_)
  · refine ifd (fun h2 => ?_) (fun h2 => ?_)
    · refine ifd (fun h3 => ?_) (fun h3 => ?_)
      · (have e : sgn (2 * a + b) b = 1 := by (unfold sgn; (repeat' split) <;> first | rfl | omega)); rw [e] at h; exact h
      · refine ifd (fun h4 => ?_) (fun h4 => ?_)
        · (have e : sgn (2 * a + b) b = 1 := by (unfold sgn; (repeat' split) <;> first | rfl | omega)); rw [e] at h; exact h
        · (have e : sgn (2 * a + b) b = 0 := by (unfold sgn; (repeat' split) <;> first | rfl | omega)); rw [e] at h; exact h
    · refine ifd (fun h3 => ?_) (fun h3 => ?_)
      · refine ifd (fun h4 => ?_) (fun h4 => ?_)
        · (have e : sgn (2 * a + b) b = -1 := by (unfold sgn; (repeat' split) <;> first | rfl | omega)); rw [e] at h; exact h
        · omega
      · refine ⟨Bd.cmul hn hn, Bd.cmul (n := 3) Bd.lit hb, Bd.cmul (five hb) hb, ?_⟩
        refine ⟨⟨rfl, rfl⟩, ?_⟩
        refine ifb (fun h5 => ?_) (fun h5 => ?_)
        · (have e : sgn (2 * a + b) b = 1 := by (unfold sgn; (repeat' split) <;> first | rfl | omega)); rw [e] at h; exact h
        · (have e : sgn (2 * a + b) b = -1 := by (unfold sgn; (repeat' split) <;> first | rfl | omega)); rw [e] at h; exact h
  · refine ifd (fun h3 => ?_) (fun h3 => ?_)
    · refine ifd (fun h4 => ?_) (fun h4 => ?_)
      · (have e : sgn (2 * a + b) b = -1 := by (unfold sgn; (repeat' split) <;> first | rfl | omega)); rw [e] at h; exact h
      · refine ⟨Bd.cmul hn hn, Bd.cmul (n := 3) Bd.lit hb, Bd.cmul (five hb) hb, ?_⟩
        refine ⟨⟨rfl, rfl⟩, ?_⟩
        refine ifb (fun h5 => ?_) (fun h5 => ?_)
        · (have e : sgn (2 * a + b) b = 1 := by (unfold sgn; (repeat' split) <;> first | rfl | omega)); rw [e] at h; exact h
        · (have e : sgn (2 * a + b) b = -1 := by (unfold sgn; (repeat' split) <;> first | rfl | omega)); rw [e] at h; exact h
    · omega
abbrev sg (a b : Int) : Int := sgn (2 * a + b) b
/-- the components of the numbers that the law draws -/
structure Go (a b d : Int) : Prop where
  ba : Bd 3500 a
  bb : Bd 3500 b
  bd : Bd 3500 d
  p : 1 ≤ d
structure Gs (a b d : Int) : Prop where
  ba : Bd 3400 a
  bb : Bd 2400 b
  bd : Bd 1650 d
  p : 1 ≤ d
theorem Gs.go {a b d : Int} (g : Gs a b d) : Go a b d := ⟨g.ba.mono (by decide), g.bb.mono (by decide), g.bd.mono (by decide), g.p⟩
theorem Go.cr {a b d c e f : Int} (g : Go a b d) (k : Go c e f) : Bd B (a * f - c * d) ∧ Bd B (b * f - e * d) :=
  ⟨((g.ba.mul k.bd).sub (k.ba.mul g.bd)).mono (by decide), ((g.bb.mul k.bd).sub (k.bb.mul g.bd)).mono (by decide)⟩
theorem e_order {a b d c e f : Int} (g : Go a b d) (k : Go c e f) (h : Q (.int (sg (a * f - c * d) (b * f - e * d)))) : tf__order ξ [T3 a b d, T3 c e f] Q := by
  obtain ⟨h1, h2⟩ := g.cr k
  exact ⟨rfl, e_need g.p ⟨rfl, e_need k.p ⟨rfl, rfl, g.ba.cmul k.bd, k.ba.cmul g.bd, g.bb.cmul k.bd, k.bb.cmul g.bd, rfl, e_sop h1 h2 h⟩⟩⟩
theorem e_sign {a b d : Int} (g : Go a b d) (h : Q (.int (sg a b))) : tf_sign ξ [T3 a b d] Q :=
  ⟨rfl, e_need g.p ⟨rfl, e_sop (g.ba.mono (by decide)) (g.bb.mono (by decide)) h⟩⟩
theorem e_below {a b d c e f : Int} (g : Go a b d) (k : Go c e f) (h : Q (.bl (decide (sg (a * f - c * d) (b * f - e * d) < 0)))) : tf_is_below ξ [T3 a b d, T3 c e f] Q := ⟨rfl, e_order g k h⟩
theorem e_equal {a b d c e f : Int} (g : Go a b d) (k : Go c e f) (h : Q (.bl (decide (sg (a * f - c * d) (b * f - e * d) = 0)))) : tf_are_equal ξ [T3 a b d, T3 c e f] Q := ⟨rfl, e_order g k h⟩
theorem e_apart {a b d c e f : Int} (g : Go a b d) (k : Go c e f) (h : Q (.int (sg (a * f - c * d) (b * f - e * d)))) : tf__law_apart ξ [T3 a b d, T3 c e f] Q := by
  obtain ⟨h1, h2⟩ := g.cr k
  exact ⟨g.ba.cmul k.bd, k.ba.cmul g.bd, g.bb.cmul k.bd, k.bb.cmul g.bd, rfl, e_lsign h1 h2 h⟩
theorem e_whole {a b d : Int} (g : Go a b d) (h : Q (.bl (decide (a % d = 0) && decide (b % d = 0)))) : tf_is_whole ξ [T3 a b d] Q := by
  refine ⟨rfl, e_need g.p ⟨rfl, g.p, ?_⟩⟩
  refine ifd (fun h1 => ?_) (fun h1 => ?_)
  · refine ⟨g.p, ?_⟩
    rw [decide_eq_true h1, Bool.true_and] at h
    exact h
  · rw [decide_eq_false h1, Bool.false_and] at h
    exact h
/-- the floor of (2 a + b + b w) / (2 d) -/
def Fl (a b d l : Int) : Prop := 0 ≤ sg (a - l * d) b ∧ sg (a - (l + 1) * d) b < 0
theorem sq_le {x y : Int} (h0 : 0 ≤ x) (h : x ≤ y) : x * x ≤ y * y := Int.mul_le_mul h h h0 (by omega)
theorem sq_lt {x y : Int} (h0 : 0 ≤ x) (h : x < y) : x * x < y * y := by
  have h1 := sq_le (x := x + 1) (y := y) (by omega) (by omega)
  have : (x + 1) * (x + 1) = x * x + 2 * x + 1 := by rw [Int.mul_add, Int.add_mul]; omega
  omega
theorem bb0 (b : Int) : 0 ≤ 5 * b * b := by
  rw [Int.mul_assoc]
  exact Int.mul_nonneg (by decide) (by rcases Int.le_total 0 b with h | h; exact Int.mul_nonneg h h; exact Int.mul_nonneg_of_nonpos_of_nonpos h h)
/-- the root of 5 b b, below b w -/
def rt (b r : Int) : Int := if b < 0 then -r - 1 else r
theorem sgn_up {n b r : Int} (h0 : 0 ≤ r) (h1 : r * r ≤ 5 * b * b) (h2 : 5 * b * b < (r + 1) * (r + 1)) (h : -(rt b r) ≤ n) : 0 ≤ sgn n b := by
  have nr := @noroot n b
  unfold rt at h
  by_cases hb : b < 0
  · rw [if_pos hb] at h
    have q := sq_le (x := r + 1) (y := n) (by omega) (by omega)
    unfold sgn
    (repeat' split) <;> omega
  · rw [if_neg hb] at h
    by_cases hn : 0 ≤ n
    · unfold sgn
      (repeat' split) <;> omega
    · have q := sq_le (x := -n) (y := r) (by omega) (by omega)
      have e : -n * -n = n * n := Int.neg_mul_neg n n
      have b0 : b ≠ 0 := by
        intro z
        subst z
        have := sq_lt (x := 0) (y := -n) (by omega) (by omega)
        omega
      unfold sgn
      (repeat' split) <;> omega
theorem sgn_dn {n b r : Int} (h0 : 0 ≤ r) (h1 : r * r ≤ 5 * b * b) (h2 : 5 * b * b < (r + 1) * (r + 1)) (h : n < -(rt b r)) : sgn n b < 0 := by
  unfold rt at h
  by_cases hb : b < 0
  · rw [if_pos hb] at h
    by_cases hn : n ≤ 0
    · unfold sgn
      (repeat' split) <;> omega
    · have q := sq_le (x := n) (y := r) (by omega) (by omega)
      unfold sgn
      (repeat' split) <;> omega
  · rw [if_neg hb] at h
    have q := sq_le (x := r + 1) (y := -n) (by omega) (by omega)
    have e : -n * -n = n * n := Int.neg_mul_neg n n
    unfold sgn
    (repeat' split) <;> omega
theorem fl_of {a b d r : Int} (hd : 1 ≤ d) (h0 : 0 ≤ r) (h1 : r * r ≤ 5 * b * b) (h2 : 5 * b * b < (r + 1) * (r + 1)) : Fl a b d ((2 * a + b + rt b r) / (2 * d)) := by
  have hd2 : 0 < 2 * d := by omega
  have k1 := Int.mul_ediv_self_le (x := 2 * a + b + rt b r) (k := 2 * d) (by omega)
  have k2 := Int.lt_mul_ediv_self_add (x := 2 * a + b + rt b r) (k := 2 * d) hd2
  generalize (2 * a + b + rt b r) / (2 * d) = l at *
  have e1 : 2 * d * l = 2 * (l * d) := by rw [Int.mul_assoc, Int.mul_comm d l]
  have e2 : (l + 1) * d = l * d + d := by rw [Int.add_mul]; omega
  refine ⟨sgn_up h0 h1 h2 (by omega), sgn_dn h0 h1 h2 (by omega)⟩
theorem Bd.root {n : Nat} {x r : Int} (hx : Bd (2 * n) x) (h0 : 0 ≤ r) (h : r * r ≤ x) : Bd n r := by
  unfold Bd at *
  refine Nat.lt_of_not_le fun l => ?_
  have h1 := Nat.mul_le_mul l l
  rw [← Nat.pow_add, show n + n = 2 * n by omega] at h1
  have h2 : ((r.natAbs * r.natAbs : Nat) : Int) = r * r := Int.natAbs_mul_self
  have h3 : r * r ≤ (x.natAbs : Int) := by omega
  omega
theorem Bd.ediv {n : Nat} {x k : Int} (hx : Bd n x) : Bd n (x / k) := Nat.lt_of_le_of_lt (Int.natAbs_ediv_le_natAbs x k) hx
theorem e_ibelow {a b d : Int} (g : Gs a b d) (h : ∀ l, Bd 3410 l → Fl a b d l → Q (.int l)) : tf_integer_below ξ [T3 a b d] Q := by
  have b5 : Bd 2403 (5 * b) := (Bd.mul (n := 3) Bd.lit g.bb).mono (by decide)
  refine ⟨rfl, e_need g.p ⟨rfl, Bd.cmul (n := 3) Bd.lit g.bb, b5.cmul g.bb, ⟨bb0 b, ?_⟩, fun r h0 h1 h2 => ?_⟩⟩
  · have z : Bd 4803 (5 * b * b) := (b5.mul g.bb)
    have z2 := PySem.Flt.log2_lt_of (by decide) z
    have : (5 * b * b).toNat = (5 * b * b).natAbs := by have := bb0 b; omega
    rw [this]
    omega
  · have fl := fl_of (a := a) g.p h0 h1 h2
    have br : Bd 2405 r := Bd.root (n := 2405) ((b5.mul g.bb).mono (by decide)) h0 h1
    have c1 : CMulW 2 a := Bd.cmul (n := 3) Bd.lit g.ba
    have c2 : CMulW 2 d := Bd.cmul (n := 3) Bd.lit g.bd
    have c3 : CDivW (0 : Int) (2 * d) := ((Bd.mul (n := 3) Bd.lit g.bd).mono (m := 1653) (by decide)).cdiv (by have := g.p; omega)
    have b1 : Bd 3406 (2 * a + b) := (((Bd.mul (n := 3) Bd.lit g.ba).mono (m := 3403) (by decide)).add (g.bb.mono (by decide))).mono (by decide)
    have b2 : Bd 3408 (-r - 1) := ((br.neg.mono (m := 3407) (by decide)).sub (Bd.mono (n := 3) Bd.lit (by decide)))
    refine ifd (fun hb => ?_) (fun hb => ?_)
    · unfold rt at fl
      rw [if_pos hb] at fl
      exact ⟨c1, c2, c3, h _ (Bd.ediv ((b1.mono (by decide)).add (b2.mono (m := 3409) (by decide)))) fl⟩
    · unfold rt at fl
      rw [if_neg hb] at fl
      exact ⟨c1, c2, c3, h _ (Bd.ediv ((b1.mono (by decide)).add (br.mono (m := 3409) (by decide)))) fl⟩
theorem sgn_neg (n b : Int) : sgn (-n) (-b) = -(sgn n b) := by
  have nr := @noroot n b
  have e1 : -n * -n = n * n := Int.neg_mul_neg n n
  have e2 : 5 * -b * -b = 5 * b * b := by rw [Int.mul_assoc, Int.neg_mul_neg, ← Int.mul_assoc]
  unfold sgn
  rw [e1, e2]
  (repeat' split) <;> omega
theorem sg_neg (a b : Int) : sg (-a) (-b) = -(sg a b) := by
  show sgn (2 * -a + -b) (-b) = _
  rw [show 2 * -a + -b = -(2 * a + b) by omega, sgn_neg]
/-- the ceiling -/
def Ce (a b d l : Int) : Prop := sg (a - l * d) b ≤ 0 ∧ 0 < sg (a - (l - 1) * d) b
theorem ce_of {a b d l : Int} (h : Fl (-a) (-b) d l) : Ce a b d (-l) := by
  obtain ⟨h1, h2⟩ := h
  have e1 : -a - l * d = -(a - -l * d) := by rw [Int.neg_mul]; omega
  have e2 : -a - (l + 1) * d = -(a - (-l - 1) * d) := by
    rw [show -l - 1 = -(l + 1) by omega, Int.neg_mul]; omega
  rw [e1, sg_neg] at h1
  rw [e2, sg_neg] at h2
  exact ⟨by omega, by omega⟩
theorem Gs.opp {a b d : Int} (g : Gs a b d) : Gs (-a) (-b) d := ⟨g.ba.neg, g.bb.neg, g.bd, g.p⟩
theorem e_iabove {a b d : Int} (g : Gs a b d) (h : ∀ l, Bd 3410 l → Ce a b d l → Q (.int l)) : tf_integer_above ξ [T3 a b d] Q :=
  ⟨rfl, e_need g.p ⟨rfl, sz (n := 3) (by decide), rfl, e_ibelow g.opp fun l bl fl => h _ bl.neg (ce_of fl)⟩⟩
theorem go_int {l : Int} (h : Bd 3420 l) : Go l 0 1 := ⟨h.mono (by decide), Bd.mono (n := 3) Bd.lit (by decide), Bd.mono (n := 3) Bd.lit (by decide), by decide⟩
theorem e_apart1 {a b d l : Int} (g : Go a b d) (hl : Bd 3420 l) (h : Q (.int (sg (a - l * d) b))) : tf__law_apart ξ [T3 a b d, T3 l 0 1] Q :=
  e_apart g (go_int hl) (by rw [Int.mul_one, Int.mul_one, Int.zero_mul, Int.sub_zero]; exact h)
theorem e_between {a b d l u : Int} (g : Go a b d) (hl : Bd 3410 l) (hu : Bd 3410 u) (fl : Fl a b d l) (ce : Ce a b d u) (h : Q (.bl true)) : tf__law_is_between ξ [T3 a b d, .int l, .int u] Q := by
  have o1 : Bd 3411 (1 : Int) := Bd.mono (n := 3) Bd.lit (by decide)
  refine ⟨sz (n := 2) (by decide), sz (n := 2) (by decide), rfl, rfl, rfl, rfl, sz (n := 0) (by decide), ⟨rfl, rfl⟩, ?_⟩
  refine ⟨sz (n := 3) (by decide), rfl, e_apart1 g (hl.mono (by decide)) ?_⟩
  refine ifd (fun z => absurd fl.1 (by omega)) (fun _ => ?_)
  refine ⟨sz (n := 3) (by decide), rfl, e_apart1 g (((hl.mono (m := 3411) (by decide)).add o1).mono (by decide)) ?_⟩
  refine ifd (fun z => absurd fl.2 (by omega)) (fun _ => ?_)
  refine ⟨sz (n := 3) (by decide), rfl, e_apart1 g (hu.mono (by decide)) ?_⟩
  refine ifd (fun _ => ?_) (fun z => absurd ce.1 (by omega))
  refine ⟨sz (n := 3) (by decide), rfl, e_apart1 g (((hu.mono (m := 3411) (by decide)).sub o1).mono (by decide)) ?_⟩
  show Q (.bl (decide (0 < sg (a - (u - 1) * d) b)))
  rw [decide_eq_true ce.2]
  exact h

/-! ### told and due -/
theorem e_same {x y : D} (e : x = y) (hs : showOk y) (h : Q (.bl true)) : tf__law_same ξ [x, y] Q := by
  subst e
  refine ⟨hs, hs, ?_⟩
  show Q (.bl (decide ((toP x).shown = (toP x).shown)))
  rw [decide_eq_true rfl]
  exact h
theorem sgn3 (n b : Int) : sgn n b = -1 ∨ sgn n b = 0 ∨ sgn n b = 1 := by
  unfold sgn
  (repeat' split) <;> omega
theorem show_int3 {a b c : Int} (ha : a = -1 ∨ a = 0 ∨ a = 1) (hb : b = -1 ∨ b = 0 ∨ b = 1) (hc : c = -1 ∨ c = 0 ∨ c = 1) : showOk (.tup [.int a, .int b, .int c]) := by
  refine ⟨rfl, ?_, rfl, ?_, ?_⟩
  · rcases ha with rfl | rfl | rfl <;> rcases hb with rfl | rfl | rfl <;> rcases hc with rfl | rfl | rfl <;> decide +kernel
  · rcases ha with rfl | rfl | rfl <;> rcases hb with rfl | rfl | rfl <;> rcases hc with rfl | rfl | rfl <;> decide +kernel
  · rcases ha with rfl | rfl | rfl <;> rcases hb with rfl | rfl | rfl <;> rcases hc with rfl | rfl | rfl <;> decide +kernel
theorem show_bl3 (a b c : Bool) : showOk (.tup [.bl a, .bl b, .bl c]) := by
  refine ⟨rfl, rfl, rfl, ?_, ?_⟩
  · cases a <;> cases b <;> cases c <;> decide +kernel
  · cases a <;> cases b <;> cases c <;> decide +kernel
theorem show_bl2 (a b : Bool) : showOk (.tup [.bl a, .bl b]) := by
  refine ⟨rfl, rfl, rfl, ?_, ?_⟩
  · cases a <;> cases b <;> decide +kernel
  · cases a <;> cases b <;> decide +kernel
theorem sg_self {a b d : Int} : sg (a * d - a * d) (b * d - b * d) = 0 := by
  rw [Int.sub_self, Int.sub_self]
  rfl
theorem sg_swap (a b d c e f : Int) : sg (c * d - a * f) (e * d - b * f) = -(sg (a * f - c * d) (b * f - e * d)) := by
  rw [← sg_neg]
  congr 1 <;> omega
theorem e_turn {a b d : Int} (g : Gs a b d) {x0 x1 x2 x3 x4 s6 : Slot} {ξ : XW} {De : DEnds} (h : ∀ s, De.nx [x0, x1, x2, x3, x4, .d (T3 a b d), s]) :
    (dSeq (dAsg (dAnd (dBin gEq (dBin gMod (dCB gInt (dCons (dBin gIx (dVar 5) (dC (.int 0))) dNil)) (dBin gIx (dVar 5) (dC (.int 2)))) (dC (.int 0))) (dBin gEq (dBin gMod (dCB gInt (dCons (dBin gIx (dVar 5) (dC (.int 1))) dNil)) (dBin gIx (dVar 5) (dC (.int 2)))) (dC (.int 0)))) (dgName 6))
    (dSeq (dIfS (dtNot (dTest (dCall 2 tf__law_same (dCons (dTup (dCons (dCall 1 tf_is_whole (dCons (dVar 5) dNil)) (dCons (dCallK 1 1 [0] tf_is_whole (dCons (dVar 5) dNil)) dNil))) (dCons (dTup (dCons (dVar 6) (dCons (dVar 6) dNil))) dNil)))))
    (dRet (dC (.bl false)))
    dNext)
    (dIfS (dtNot (dTest (dCall 3 tf__law_is_between (dCons (dVar 5) (dCons (dCall 1 tf_integer_below (dCons (dVar 5) dNil)) (dCons (dCall 1 tf_integer_above (dCons (dVar 5) dNil)) dNil))))))
    (dRet (dC (.bl false)))
    dNext))) ξ De [x0, x1, x2, x3, x4, .d (T3 a b d), s6] := by
  have one : ∀ w : Bool, w = (decide (a % d = 0) && decide (b % d = 0)) → (dSeq (dIfS (dtNot (dTest (dCall 2 tf__law_same (dCons (dTup (dCons (dCall 1 tf_is_whole (dCons (dVar 5) dNil)) (dCons (dCallK 1 1 [0] tf_is_whole (dCons (dVar 5) dNil)) dNil))) (dCons (dTup (dCons (dVar 6) (dCons (dVar 6) dNil))) dNil)))))
    (dRet (dC (.bl false)))
    dNext)
    (dIfS (dtNot (dTest (dCall 3 tf__law_is_between (dCons (dVar 5) (dCons (dCall 1 tf_integer_below (dCons (dVar 5) dNil)) (dCons (dCall 1 tf_integer_above (dCons (dVar 5) dNil)) dNil))))))
    (dRet (dC (.bl false)))
    dNext)) ξ De [x0, x1, x2, x3, x4, .d (T3 a b d), .d (.bl w)] := by
    intro w hw
    refine ⟨rfl, e_whole g.go ⟨⟨rfl, rfl⟩, e_whole g.go ⟨sz (n := 2) (by decide), sz (n := 2) (by decide), rfl, e_same (by rw [← hw]) (show_bl2 w w) ?_⟩⟩⟩
    exact ⟨rfl, e_ibelow g fun l bl fl => ⟨rfl, e_iabove g fun u bu ce => ⟨rfl, e_between g.go bl bu fl ce (h _)⟩⟩⟩
  refine ⟨g.p, ?_⟩
  refine ifd (fun h1 => ?_) (fun h1 => ?_)
  · refine ⟨g.p, one _ ?_⟩
    rw [decide_eq_true h1, Bool.true_and]
  · refine one _ ?_
    rw [decide_eq_false h1, Bool.false_and]
theorem e_right {a b d c e f : Int} (g : Gs a b d) (k : Gs c e f) (h : Q (.bl true)) : tf__law_are_right ξ [T3 a b d, T3 c e f] Q := by
  refine ⟨rfl, e_lsign (g.ba.mono (by decide)) (g.bb.mono (by decide)) ⟨rfl, e_lsign (k.ba.mono (by decide)) (k.bb.mono (by decide)) ⟨rfl, e_apart g.go k.go ?_⟩⟩⟩
  generalize hS : sg (a * f - c * d) (b * f - e * d) = S
  have hS' : sg (c * d - a * f) (e * d - b * f) = -S := by rw [← hS]; exact sg_swap a b d c e f
  refine ⟨rfl, e_sign g.go ⟨rfl, e_sign k.go ⟨⟨rfl, rfl⟩, e_sign g.go ⟨sz (n := 3) (by decide), sz (n := 3) (by decide), rfl, e_same rfl (show_int3 (sgn3 _ _) (sgn3 _ _) (sgn3 _ _)) ?_⟩⟩⟩⟩
  refine ⟨rfl, e_below g.go k.go ⟨rfl, e_below k.go g.go ⟨⟨rfl, rfl⟩, e_below g.go k.go ⟨sz (n := 3) (by decide), sz (n := 3) (by decide), rfl, e_same ?_ (show_bl3 _ _ _) ?_⟩⟩⟩⟩
  · rw [hS, hS']
    congr 4
    rw [Bool.eq_iff_iff, decide_eq_true_iff, decide_eq_true_iff]
    omega
  refine ⟨rfl, e_equal g.go k.go ⟨⟨rfl, rfl⟩, e_equal k.go g.go ⟨rfl, e_equal g.go g.go ⟨sz (n := 3) (by decide), sz (n := 3) (by decide), rfl, e_same ?_ (show_bl3 _ _ _) ?_⟩⟩⟩⟩
  · rw [hS, hS', sg_self]
    congr 4
    rw [Bool.eq_iff_iff, decide_eq_true_iff, decide_eq_true_iff]
    omega
  refine ⟨sz (n := 2) (by decide), ?_⟩
  refine e_turn g fun s1 => ?_
  refine e_turn k fun s2 => ?_
  exact ⟨⟨rfl, rfl⟩, e_ibelow g fun l bl fl => ⟨⟨rfl, rfl⟩, e_iabove g fun u bu ce => ⟨rfl, e_between g.go bl bu fl ce h⟩⟩⟩

/-! ### the drawn numbers -/
theorem e_draw {n : Int} (h0 : 0 < n) (h1 : n < 1000000000) (h : ∀ r, 0 ≤ r → r < n → Q (.int r)) : tf_draw ξ [.deck, .int n] Q := ⟨⟨h0, h1⟩, h⟩
theorem ix_any {ds : List D} {r : Int} (h0 : 0 ≤ r) (h1 : r < ds.length) (h : ∀ d ∈ ds, Q d) : gIx (.tup ds) (.int r) Q := by
  obtain ⟨j, rfl⟩ : ∃ j : Nat, r = j := ⟨r.toNat, by omega⟩
  have hj : j < ds.length := by omega
  have e : atI ds (j : Int) = some ds[j] := atI_nat (List.getElem?_eq_getElem hj)
  show (match atI ds (j : Int) with | some d => Q d | none => False)
  rw [e]
  exact h _ (List.getElem_mem hj)
theorem e_pick {ds : List D} (h0 : 0 < ds.length) (h1 : ds.length < 1000000000) (h : ∀ d ∈ ds, Q d) : tf__law_pick ξ [.deck, .tup ds] Q :=
  ⟨rfl, e_draw (by omega) (by omega) fun r r0 r1 => ix_any r0 r1 h⟩
theorem ints_cons (lo : Int) (n : Nat) : intsD lo (n + 1) = .int lo :: intsD (lo + 1) n := by
  unfold intsD
  rw [List.range_succ_eq_map, List.map_cons, List.map_map]
  congr 1
  · simp
  · apply List.map_congr_left
    intro i _
    show D.int (lo + ((i + 1 : Nat) : Int)) = D.int (lo + 1 + (i : Int))
    congr 1
    omega
theorem p6 (k : Nat) : (10 : Int) ^ (6 * k) < 2 ^ (20 * k) + 1 := by
  have h : (10 ^ (6 * k) : Nat) ≤ 2 ^ (20 * k) := by
    rw [Nat.pow_mul, Nat.pow_mul]
    exact Nat.pow_le_pow_left (by decide) k
  have : ((10 ^ (6 * k) : Nat) : Int) ≤ ((2 ^ (20 * k) : Nat) : Int) := Int.ofNat_le.mpr h
  rw [Int.natCast_pow, Int.natCast_pow] at this
  have e1 : ((10 : Nat) : Int) = 10 := rfl
  have e2 : ((2 : Nat) : Int) = 2 := rfl
  rw [e1, e2] at this
  omega
theorem bd_pow {x : Int} {k : Nat} (h0 : 0 ≤ x) (h : x < 10 ^ (6 * k)) : Bd (20 * k) x := by
  have := p6 k
  unfold Bd
  have e : ((2 ^ (20 * k) : Nat) : Int) = 2 ^ (20 * k) := by rw [Int.natCast_pow]; rfl
  omega
theorem bd_face {f x : Int} {n : Nat} (hf : f = 1 ∨ f = -1) (h : Bd n x) : Bd n (f * x) := by
  rcases hf with rfl | rfl
  · rw [Int.one_mul]; exact h
  · rw [Int.neg_one_mul]; exact h.neg
theorem loop_int {ξ : XW} {De : DEnds} {x1 x2 x3 : Slot} : ∀ (n i : Nat) (f : Int) (s : Slot) (lo : Int), 0 ≤ f → f < 10 ^ (6 * i) → i + n ≤ 200 → (∀ f s, 0 ≤ f → f < 10 ^ (6 * (i + n)) → De.nx [.d .deck, x1, x2, x3, .d (.int f), s]) →
    forD (dgName 5) (dAsg (dBin gAdd (dBin gMul (dVar 4) (dBin gPow (dC (.int 10)) (dC (.int 6)))) (dCall 2 tf_draw (dCons (dVar 0) (dCons (dBin gPow (dC (.int 10)) (dC (.int 6))) dNil)))) (dgName 4)) ξ De (intsD lo n) [.d .deck, x1, x2, x3, .d (.int f), s]
  | 0, i, f, s, lo, h0, h1, _, h => h f s h0 h1
  | n + 1, i, f, s, lo, h0, h1, hl, h => by
    rw [ints_cons]
    have pw : CPow 10 6 := ⟨by decide, by decide, by decide⟩
    have bf : Bd 4000 f := (bd_pow h0 h1).mono (by omega)
    refine ⟨pw, bf.cmul (Bd.mono (n := 20) Bd.lit (by decide) : Bd 20 ((10 : Int) ^ (6 : Int).toNat)), pw, rfl, e_draw (by decide) (by decide) fun r r0 r1 => ?_⟩
    refine loop_int n (i + 1) _ _ _ ?_ ?_ (by omega) (by rw [show i + 1 + n = i + (n + 1) by omega]; exact h)
    · have : (10 : Int) ^ (6 : Int).toNat = 1000000 := rfl
      rw [this] at r1 ⊢
      omega
    · have e1 : (10 : Int) ^ (6 : Int).toNat = 1000000 := rfl
      rw [e1] at r1 ⊢
      rw [show 6 * (i + 1) = 6 * i + 6 by omega, Int.pow_add]
      generalize (10 : Int) ^ (6 * i) = z at *
      show f * 1000000 + r < z * 1000000
      omega
theorem e_integer {k : Nat} (h0 : 1 ≤ k) (h1 : k ≤ 100) (h : ∀ x, Bd (20 * k) x → Q (.int x)) : tf__law_integer ξ [.deck, .int (k : Int)] Q := by
  have bk : Bd 10 (k : Int) := by unfold Bd; omega
  refine ⟨rfl, e_draw (by decide) (by decide) fun w w0 w1 => ⟨rfl, e_draw (by decide) (by decide) fun f f0 f1 => ⟨Bd.cmul (n := 2) Bd.lit (bd_small (n := 2) (m := 2) f0 f1), ?_⟩⟩⟩
  have hf : 1 - 2 * f = 1 ∨ 1 - 2 * f = -1 := by omega
  have bf : Bd 2 (1 - 2 * f) := by rcases hf with e | e <;> rw [e] <;> exact Bd.lit
  refine ifd (fun hw => ?_) (fun hw => ?_)
  · refine ⟨sz (n := 6) (by decide), ix_any w0 hw ?_⟩
    intro d hd
    obtain ⟨m, rfl, m0, m1⟩ : ∃ m : Int, d = .int m ∧ 0 < m ∧ m ≤ 1000 := by
      simp only [List.mem_cons, List.not_mem_nil, or_false] at hd
      rcases hd with rfl | rfl | rfl | rfl | rfl | rfl <;> exact ⟨_, rfl, by decide, by decide⟩
    refine ⟨rfl, e_draw m0 (by omega) fun r r0 r1 => ?_⟩
    have br : Bd 10 r := by unfold Bd; omega
    exact ⟨bf.cmul br, h _ ((bd_face hf br).mono (by omega))⟩
  · refine ifd (fun hw6 => ?_) (fun hw6 => ?_)
    · refine ⟨Bd.cmul (n := 3) Bd.lit bk, ⟨by omega, by omega⟩, rfl, e_draw (by decide) (by decide) fun r r0 r1 => ?_⟩
      have e : (6 * (k : Int)).toNat = 6 * k := by omega
      rw [e]
      have l : (1000000 : Int) ≤ 10 ^ (6 * k) := by
        have : (10 ^ 6 : Nat) ≤ 10 ^ (6 * k) := Nat.pow_le_pow_right (by decide) (by omega)
        have := Int.ofNat_le.mpr this
        rw [Int.natCast_pow, Int.natCast_pow] at this
        exact this
      have b : Bd (20 * k) (10 ^ (6 * k) - 1 - r) := bd_pow (by omega) (by omega)
      exact ⟨bf.cmul (b.mono (m := 2000) (by omega)), h _ (bd_face hf b)⟩
    · refine ⟨rfl, e_draw (by omega) (by omega) fun r r0 r1 => ⟨⟨by omega, by omega⟩, ?_⟩⟩
      refine loop_int _ 0 0 _ 0 (Int.le_refl _) (by decide) (by omega) ?_
      intro x s x0 x1
      have b : Bd (20 * k) x := bd_pow x0 (Int.lt_of_lt_of_le x1 (by
        have : (10 ^ (6 * (0 + (1 + r).toNat)) : Nat) ≤ 10 ^ (6 * k) := Nat.pow_le_pow_right (by decide) (by omega)
        have := Int.ofNat_le.mpr this
        rw [Int.natCast_pow, Int.natCast_pow] at this
        exact this))
      exact ⟨bf.cmul (b.mono (m := 2000) (by omega)), h _ (bd_face hf b)⟩
theorem loop_thin {ξ : XW} {De : DEnds} {x0 x1 x2 : Slot} : ∀ (n i : Nat) (a b : Int) (s : Slot) (lo : Int), Bd (i + 1) a → Bd (i + 1) b → (∀ a b s, Bd (i + n + 1) a → Bd (i + n + 1) b → De.nx [x0, x1, x2, .d (.int a), .d (.int b), s]) →
    forD (dgName 5) (dPar 3 4 (dCons (dBin gSub (dVar 3) (dVar 4)) (dCons (dUn gNeg (dVar 3)) dNil))) ξ De (intsD lo n) [x0, x1, x2, .d (.int a), .d (.int b), s]
  | 0, i, a, b, s, lo, ha, hb, h => h a b s ha hb
  | n + 1, i, a, b, s, lo, ha, hb, h => by
    rw [ints_cons]
    exact loop_thin n (i + 1) (a - b) (-a) _ _ (ha.sub hb) (ha.neg.mono (by omega)) (by rw [show i + 1 + n = i + (n + 1) by omega]; exact h)
theorem e_thin {k : Nat} (h0 : 1 ≤ k) (h1 : k ≤ 100) (h : ∀ x y, Bd (29 * k) x → Bd (29 * k) y → Q (.tup [.int x, .int y])) : tf__law_thin ξ [.deck, .int (k : Int)] Q := by
  have bk : Bd 10 (k : Int) := by unfold Bd; omega
  refine ⟨Bd.cmul (n := 6) Bd.lit bk, rfl, e_draw (by omega) (by omega) fun m m0 m1 => ⟨sz (n := 2) (by decide), rfl, ⟨by omega, by omega⟩, ?_⟩⟩
  refine loop_thin _ 0 1 0 _ 0 Bd.lit Bd.lit ?_
  intro a b s ha hb
  have ha := ha.mono (m := 29 * k) (by omega)
  have hb := hb.mono (m := 29 * k) (by omega)
  refine ⟨rfl, e_draw (by decide) (by decide) fun r r0 r1 => ?_⟩
  refine ifd (fun _ => ?_) (fun _ => ?_)
  · exact ⟨sz (n := 2) (by decide), h _ _ ha hb⟩
  · exact ⟨sz (n := 2) (by decide), h _ _ ha.neg hb.neg⟩
end K07
set_option maxHeartbeats 400000
set_option maxRecDepth 100000
namespace K07
open PySem PySem.Spec L2 DL
variable {ξ : XW} {Q : D → Prop} {s2 : Slot}
structure Gd (k : Nat) (a b d : Int) : Prop where
  ba : Bd (40 * k + 42) a
  bb : Bd (29 * k) b
  bd : Bd (20 * k + 1) d
  p : 1 ≤ d
def goldTail : TDS := (dSeq (dAsg (dCall 2 tf_draw (dCons (dVar 0) (dCons (dC (.int 5)) dNil))) (dgName 3))
    (dSeq (dIfS (dTest (dBin gEq (dVar 3) (dC (.int 0))))
    (dRet (dTup (dCons (dBin gMul (dVar 2) (dCall 2 tf__law_integer (dCons (dVar 0) (dCons (dVar 1) dNil)))) (dCons (dC (.int 0)) (dCons (dVar 2) dNil)))))
    dNext)
    (dSeq (dIfS (dTest (dBin gEq (dVar 3) (dC (.int 1))))
    (dSeq (dAsg (dCall 2 tf__law_thin (dCons (dVar 0) (dCons (dVar 1) dNil))) (dgTup 2 (dgCons (dgName 4) (dgCons (dgName 5) dgNil))))
    (dRet (dTup (dCons (dVar 4) (dCons (dVar 5) (dCons (dVar 2) dNil))))))
    dNext)
    (dSeq (dIfS (dTest (dBin gEq (dVar 3) (dC (.int 2))))
    (dSeq (dAsg (dCall 2 tf__law_thin (dCons (dVar 0) (dCons (dVar 1) dNil))) (dgTup 2 (dgCons (dgName 4) (dgCons (dgName 5) dgNil))))
    (dRet (dTup (dCons (dBin gAdd (dBin gMul (dVar 2) (dCall 2 tf__law_integer (dCons (dVar 0) (dCons (dC (.int 2)) dNil)))) (dVar 4)) (dCons (dVar 5) (dCons (dVar 2) dNil))))))
    dNext)
    (dRet (dTup (dCons (dCall 2 tf__law_integer (dCons (dVar 0) (dCons (dVar 1) dNil))) (dCons (dCall 2 tf__law_integer (dCons (dVar 0) (dCons (dVar 1) dNil))) (dCons (dVar 2) dNil)))))))))
theorem gold_tail {k : Nat} {m : Int} {ξ : XW} {De : DEnds} {s3 s4 s5 : Slot} (h0 : 1 ≤ k) (h1 : k ≤ 100) (p : 1 ≤ m) (bm : Bd (20 * k + 1) m) (h : ∀ a b d, Gd k a b d → De.rt (T3 a b d)) : goldTail ξ De [.d .deck, .d (.int (k : Int)), .d (.int m), s3, s4, s5] := by
  have z : ∀ n, Bd n (0 : Int) := fun n => Nat.pow_pos (by decide)
  refine ⟨rfl, e_draw (by decide) (by decide) fun w w0 w1 => ?_⟩
  refine ifd (fun hw => ?_) (fun hw => ?_)
  · exact ⟨rfl, e_integer h0 h1 fun x bx => ⟨(bm.mono (m := 3000) (by omega)).cmul (bx.mono (m := 3000) (by omega)), sz (n := 3) (by decide), h _ _ _ ⟨(bm.mul bx).mono (by omega), z _, bm, p⟩⟩⟩
  refine ifd (fun hw => ?_) (fun hw => ?_)
  · exact ⟨rfl, e_thin h0 h1 fun x y bx yy => ⟨rfl, sz (n := 3) (by decide), h _ _ _ ⟨bx.mono (by omega), yy, bm, p⟩⟩⟩
  refine ifd (fun hw => ?_) (fun hw => ?_)
  · refine ⟨rfl, e_thin h0 h1 fun x y bx yy => ⟨rfl, rfl, e_integer (k := 2) (by decide) (by decide) fun u bu => ⟨(bm.mono (m := 3000) (by omega)).cmul (bu.mono (m := 3000) (by omega)), sz (n := 3) (by decide), h _ _ _ ⟨?_, yy, bm, p⟩⟩⟩⟩
    exact (((bm.mul bu).mono (m := 40 * k + 41) (by omega)).add (bx.mono (by omega)))
  · exact ⟨rfl, e_integer h0 h1 fun x bx => ⟨rfl, e_integer h0 h1 fun y yy => ⟨sz (n := 3) (by decide), h _ _ _ ⟨bx.mono (by omega), yy.mono (by omega), bm, p⟩⟩⟩⟩
theorem e_golden_draw {k : Nat} (h0 : 1 ≤ k) (h1 : k ≤ 100) (h : ∀ a b d, Gd k a b d → Q (T3 a b d)) : tf__law_golden ξ [.deck, .int (k : Int)] Q := by
  refine ⟨sz (n := 10) (by decide), rfl, e_pick (by decide) (by decide) ?_⟩
  intro d hd
  obtain ⟨m, rfl, m0, m1⟩ : ∃ m : Int, d = .int m ∧ 0 ≤ m ∧ m ≤ 12 := by
    simp only [List.mem_cons, List.not_mem_nil, or_false] at hd
    rcases hd with rfl | rfl | rfl | rfl | rfl | rfl | rfl | rfl | rfl | rfl <;> exact ⟨_, rfl, by decide, by decide⟩
  refine ifd (fun hz => ?_) (fun hz => ?_)
  · refine ⟨rfl, e_integer h0 h1 fun x bx => ?_⟩
    refine gold_tail h0 h1 ?_ ?_ h
    · split <;> omega
    · unfold Bd at *
      rw [Nat.pow_succ]
      have : 1 ≤ 2 ^ (20 * k) := Nat.one_le_pow _ _ (by decide)
      split <;> omega
  · refine gold_tail h0 h1 (by omega) ?_ h
    unfold Bd
    have : 2 ^ 20 ≤ 2 ^ (20 * k + 1) := Nat.pow_le_pow_right (by decide) (by omega)
    omega
theorem gd_gs {k : Nat} {a b d : Int} (h1 : k ≤ 80) (g : Gd k a b d) : Gs a b d := ⟨g.ba.mono (by omega), g.bb.mono (by omega), g.bd.mono (by omega), g.p⟩
theorem e_other {k : Nat} {a b d : Int} (h0 : 1 ≤ k) (h1 : k ≤ 80) (g : Gd k a b d) (h : ∀ a b d, Gs a b d → Q (T3 a b d)) : tf__law_other ξ [.deck, T3 a b d, .int (k : Int)] Q := by
  have ga := g.ba.mono (m := 3242) (by omega)
  have gb := g.bb.mono (m := 2320) (by omega)
  have gd := g.bd.mono (m := 1601) (by omega)
  refine ⟨rfl, e_draw (by decide) (by decide) fun w w0 w1 => ⟨rfl, e_draw (by decide) (by decide) fun f f0 f1 => ?_⟩⟩
  have bf : Bd 4 (1 + f) := by unfold Bd; omega
  have c1 := bf.cmul ga
  have c2 := bf.cmul gb
  have c3 := bf.cmul gd
  have pd : 1 ≤ (1 + f) * d := by
    have := Int.mul_le_mul (a := 1) (b := 1) (c := 1 + f) (d := d) (by omega) g.p (by decide) (by omega)
    omega
  refine ifd (fun hw => ?_) (fun hw => ?_)
  · exact ⟨c1, c2, c3, sz (n := 3) (by decide), h _ _ _ ⟨(bf.mul ga).mono (by decide), (bf.mul gb).mono (by decide), (bf.mul gd).mono (by decide), pd⟩⟩
  refine ifd (fun hw => ?_) (fun hw => ?_)
  · refine ⟨rfl, e_thin h0 (by omega) fun x y bx yy => ⟨rfl, c1, c2, c3, sz (n := 3) (by decide), h _ _ _ ⟨?_, ?_, (bf.mul gd).mono (by decide), pd⟩⟩⟩
    · exact (((bf.mul ga).mono (m := 3300) (by decide)).add (bx.mono (by omega))).mono (by decide)
    · exact (((bf.mul gb).mono (m := 2330) (by decide)).add (yy.mono (by omega))).mono (by decide)
  refine ifd (fun hw => ?_) (fun hw => ?_)
  · refine ⟨rfl, e_draw (by decide) (by decide) fun r r0 r1 => ⟨Bd.cmul (n := 2) Bd.lit (bd_small (n := 2) (m := 2) r0 r1), sz (n := 3) (by decide), h _ _ _ ⟨ga.mono (by decide), ?_, gd.mono (by decide), g.p⟩⟩⟩
    have t : Bd 2321 (2 * r) := by
      refine Bd.mono (n := 3) ?_ (by decide)
      unfold Bd; omega
    exact ((((gb.add (Bd.mono (n := 2) Bd.lit (by decide))).sub t).mono (by decide)))
  · exact ⟨rfl, e_golden_draw h0 (by omega) fun a b d g => h _ _ _ (gd_gs h1 g)⟩
theorem e_both {k : Nat} (h0 : 1 ≤ k) (h1 : k ≤ 80) {a b d : Int} (g : Gd k a b d) (h : Q (.bl true)) : dCall 2 tf__law_are_right (dCons (dVar 3) (dCons (dCall 3 tf__law_other (dCons (dVar 1) (dCons (dVar 3) (dCons (dC (.int (k : Int))) dNil)))) dNil)) ξ [.un, .d .deck, s2, .d (T3 a b d)] Q :=
  ⟨rfl, e_other h0 h1 g fun _ _ _ g2 => ⟨rfl, e_right (gd_gs h1 g) g2 h⟩⟩
end K07
set_option maxHeartbeats 400000
set_option maxRecDepth 100000
namespace K07
open PySem PySem.Spec L2 DL
variable {ξ : XW} {Q : D → Prop} {s2 : Slot}
def mTurn : TDS := (dSeq (dAsg (dCall 2 tf__law_golden (dCons (dVar 1) (dCons (dC (.int 10)) dNil))) (dgName 3))
    (dIfS (dtNot (dTest (dCall 2 tf__law_are_right (dCons (dVar 3) (dCons (dCall 3 tf__law_other (dCons (dVar 1) (dCons (dVar 3) (dCons (dC (.int 10)) dNil)))) dNil)))))
    (dRet (dC (.bl false)))
    dNext))
def mRest : TDS := (dSeq (dIfS (dTest (dBin gEq (dCall 2 tf_draw (dCons (dVar 1) (dCons (dC (.int 8)) dNil))) (dC (.int 0))))
    (dSeq (dAsg (dCall 2 tf__law_golden (dCons (dVar 1) (dCons (dC (.int 80)) dNil))) (dgName 3))
    (dRet (dCall 2 tf__law_are_right (dCons (dVar 3) (dCons (dCall 3 tf__law_other (dCons (dVar 1) (dCons (dVar 3) (dCons (dC (.int 80)) dNil)))) dNil)))))
    dNext)
    (dRet (dC (.bl true))))
theorem m_rest {s2 s3 : Slot} : mRest (fun _ => False) { nx := fun _ => False, rt := fun d => d = .bl true } [.un, .d .deck, s2, s3] := by
  refine ⟨rfl, e_draw (by decide) (by decide) fun r r0 r1 => ?_⟩
  refine ifd (fun _ => ?_) (fun _ => rfl)
  exact ⟨rfl, e_golden_draw (k := 80) (by decide) (by decide) fun a b d g => ⟨rfl, e_other (k := 80) (by decide) (by decide) g fun _ _ _ g2 => ⟨rfl, e_right (gd_gs (k := 80) (by decide) g) g2 rfl⟩⟩⟩
theorem m_turn {De : DEnds} {s2 s3 : Slot} (h : ∀ s2 s3, De.nx [.un, .d .deck, s2, s3]) : mTurn (fun _ => False) De [.un, .d .deck, s2, s3] :=
  ⟨rfl, e_golden_draw (k := 10) (by decide) (by decide) fun a b d g => ⟨rfl, e_other (k := 10) (by decide) (by decide) g fun _ _ _ g2 => ⟨rfl, e_right (gd_gs (k := 10) (by decide) g) g2 (h _ _)⟩⟩⟩
theorem m_loop {De : DEnds} : ∀ (n : Nat) (lo : Int) (s2 s3 : Slot), (∀ s2 s3, De.nx [.un, .d .deck, s2, s3]) → forD (dgName 2) mTurn (fun _ => False) De (intsD lo n) [.un, .d .deck, s2, s3]
  | 0, lo, s2, s3, h => h _ _
  | n + 1, lo, s2, s3, h => by
    rw [ints_cons]
    exact m_turn fun s2 s3 => m_loop n (lo + 1) s2 s3 h
theorem math : T_law (fun _ => False) { nx := fun _ => False, rt := fun d => d = .bl true } (.un :: .d .deck :: List.replicate 2 .un) :=
  ⟨⟨by decide, by decide⟩, m_loop 6 0 _ _ fun _ _ => m_rest⟩
end K07
set_option Elab.async false
set_option linter.all false
set_option maxRecDepth 100000
set_option maxHeartbeats 4000000
namespace K07
open PySem PySem.Spec L2 DL
open PyProof.Rows hiding St
def dd_is_plain_integer : He.DefD := ⟨("is_plain_integer", none), "is_plain_integer", "is_plain_integer", defArgs s_is_plain_integer, defBody s_is_plain_integer, defScope s_is_plain_integer, [], []⟩
def dd_is_tuple_of : He.DefD := ⟨("is_tuple_of", none), "is_tuple_of", "is_tuple_of", defArgs s_is_tuple_of, defBody s_is_tuple_of, defScope s_is_tuple_of, [], []⟩
def dd_are_plain_integers : He.DefD := ⟨("are_plain_integers", none), "are_plain_integers", "are_plain_integers", defArgs s_are_plain_integers, defBody s_are_plain_integers, defScope s_are_plain_integers, [], []⟩
def dd_is_golden : He.DefD := ⟨("is_golden", none), "is_golden", "is_golden", defArgs s_is_golden, defBody s_is_golden, defScope s_is_golden, [], []⟩
def dd__need_golden : He.DefD := ⟨("_need_golden", none), "_need_golden", "_need_golden", defArgs s__need_golden, defBody s__need_golden, defScope s__need_golden, [], []⟩
def dd_sign_of_parts : He.DefD := ⟨("sign_of_parts", none), "sign_of_parts", "sign_of_parts", defArgs s_sign_of_parts, defBody s_sign_of_parts, defScope s_sign_of_parts, [], []⟩
def dd__order : He.DefD := ⟨("_order", none), "_order", "_order", defArgs s__order, defBody s__order, defScope s__order, [], []⟩
def dd_sign : He.DefD := ⟨("sign", none), "sign", "sign", defArgs s_sign, defBody s_sign, defScope s_sign, [], []⟩
def dd_is_below : He.DefD := ⟨("is_below", none), "is_below", "is_below", defArgs s_is_below, defBody s_is_below, defScope s_is_below, [], []⟩
def dd_are_equal : He.DefD := ⟨("are_equal", none), "are_equal", "are_equal", defArgs s_are_equal, defBody s_are_equal, defScope s_are_equal, [], []⟩
def dd_integer_below : He.DefD := ⟨("integer_below", none), "integer_below", "integer_below", defArgs s_integer_below, defBody s_integer_below, defScope s_integer_below, [], []⟩
def dd_integer_above : He.DefD := ⟨("integer_above", none), "integer_above", "integer_above", defArgs s_integer_above, defBody s_integer_above, defScope s_integer_above, [], []⟩
def dd_is_whole : He.DefD := ⟨("is_whole", none), "is_whole", "is_whole", defArgs s_is_whole, defBody s_is_whole, defScope s_is_whole, [], []⟩
def dd__law_deck : He.DefD := ⟨("_law_deck", none), "_law_deck", "_law_deck", defArgs s__law_deck, defBody s__law_deck, defScope s__law_deck, [], []⟩
def dd__law_draw : He.DefD := ⟨("_law_draw", none), "_law_draw", "_law_draw", defArgs s__law_draw, defBody s__law_draw, defScope s__law_draw, [], []⟩
def dd__law_pick : He.DefD := ⟨("_law_pick", none), "_law_pick", "_law_pick", defArgs s__law_pick, defBody s__law_pick, defScope s__law_pick, [], []⟩
def dd__law_integer : He.DefD := ⟨("_law_integer", none), "_law_integer", "_law_integer", defArgs s__law_integer, defBody s__law_integer, defScope s__law_integer, [], []⟩
def dd__law_sign : He.DefD := ⟨("_law_sign", none), "_law_sign", "_law_sign", defArgs s__law_sign, defBody s__law_sign, defScope s__law_sign, [], []⟩
def dd__law_same : He.DefD := ⟨("_law_same", none), "_law_same", "_law_same", defArgs s__law_same, defBody s__law_same, defScope s__law_same, [], []⟩
def dd__law_thin : He.DefD := ⟨("_law_thin", none), "_law_thin", "_law_thin", defArgs s__law_thin, defBody s__law_thin, defScope s__law_thin, [], []⟩
def dd__law_golden : He.DefD := ⟨("_law_golden", none), "_law_golden", "_law_golden", defArgs s__law_golden, defBody s__law_golden, defScope s__law_golden, [], []⟩
def dd__law_other : He.DefD := ⟨("_law_other", none), "_law_other", "_law_other", defArgs s__law_other, defBody s__law_other, defScope s__law_other, [], []⟩
def dd__law_apart : He.DefD := ⟨("_law_apart", none), "_law_apart", "_law_apart", defArgs s__law_apart, defBody s__law_apart, defScope s__law_apart, [], []⟩
def dd__law_is_between : He.DefD := ⟨("_law_is_between", none), "_law_is_between", "_law_is_between", defArgs s__law_is_between, defBody s__law_is_between, defScope s__law_is_between, [], []⟩
def dd__law_are_right : He.DefD := ⟨("_law_are_right", none), "_law_are_right", "_law_are_right", defArgs s__law_are_right, defBody s__law_are_right, defScope s__law_are_right, [], []⟩
def dd_law : He.DefD := ⟨("law", none), "law", "law", defArgs s_law, defBody s_law, defScope s_law, [], []⟩
def fn : List He.DefD := [dd_is_plain_integer, dd_is_tuple_of, dd_are_plain_integers, dd_is_golden, dd__need_golden, dd_sign_of_parts, dd__order, dd_sign, dd_is_below, dd_are_equal, dd_integer_below, dd_integer_above, dd_is_whole, dd__law_deck, dd__law_draw, dd__law_pick, dd__law_integer, dd__law_sign, dd__law_same, dd__law_thin, dd__law_golden, dd__law_other, dd__law_apart, dd__law_is_between, dd__law_are_right, dd_law]
def fa : List He.Fa := [.glo "is_plain_integer", .glo "is_tuple_of", .glo "are_plain_integers", .glo "is_golden", .glo "_need_golden", .glo "sign_of_parts", .glo "_order", .glo "sign", .glo "is_below", .glo "are_equal", .glo "integer_below", .glo "integer_above", .glo "is_whole", .glo "_law_deck", .glo "_law_draw", .glo "_law_pick", .glo "_law_integer", .glo "_law_sign", .glo "_law_same", .glo "_law_thin", .glo "_law_golden", .glo "_law_other", .glo "_law_apart", .glo "_law_is_between", .glo "_law_are_right", .glo "law", .free "abs", .free "all", .free "bool", .free "int", .free "isinstance", .free "len", .free "list", .free "max", .free "range", .free "repr", .free "tuple"]
def ex (K : PySem.W.Frag) : Bool := bltB K "isqrt" "math.isqrt"
abbrev R : PySem.W.OpenRow := PySem.W.OpenLaw.row PySem.Challenge.rw_nevertwice_k07_signs_order_and_integers
abbrev hk : PySem.W.Hook := hookE 4 fa fn ex
def ob (s : PySem.W.SharedT) : He.AlD × Bool := obsE 4 fa fn ex (HandSHeadRun.getT s)
theorem ob_eq (s : PySem.W.SharedT) : ob s = hk.obs s.abs := obsE_eq (HandSHeadRun.getT_eq s)
def nms0 : List Str := ["isqrt", "is_plain_integer", "is_tuple_of", "are_plain_integers", "FloorError", "BadNumber", "is_golden", "_need_golden", "sign_of_parts", "_order", "sign", "is_below", "are_equal", "integer_below", "integer_above", "is_whole", "_law_deck", "_law_draw", "_law_pick", "_law_integer", "_law_sign", "_law_same", "_law_thin", "_law_golden", "_law_other", "_law_apart", "_law_is_between", "_law_are_right"]
def nms : List Str := nms0
theorem run (w : World) : HandSHeadRun.RunEqI R (PySem.W.view R.prog [0, 32]) hk ob 2980 nms w := by
  unfold HandSHeadRun.RunEqI
  kernel_rfl
theorem facts {P : Program} {w : World} {K : PySem.W.Frag} {h : Heap} {mg : Str → Option Value} {f : Addr} (X : K.In h) (G : h.Ns mainGlobals mg) (hfa : mg ("law" : Str) = some (.ref f)) (c : He.SaysD fa fn K) (ce : ex K = true) :
    ∃ fd : FuncData, (∀ (s : Shared) (v : Value), BindsTo s fd ⟨[v], []⟩ [("_law_script", v)]) ∧ ∀ base : Heap, K.In base → base.Ns mainGlobals mg → FnG P w K mg base CX0 8 f fd ["_law_script"] (spLaw K 2 T_law) := by
  obtain ⟨fd0, F0⟩ := c.def_ 0 (d := dd_is_plain_integer) rfl
  obtain ⟨fd1, F1⟩ := c.def_ 1 (d := dd_is_tuple_of) rfl
  obtain ⟨fd2, F2⟩ := c.def_ 2 (d := dd_are_plain_integers) rfl
  obtain ⟨fd3, F3⟩ := c.def_ 3 (d := dd_is_golden) rfl
  obtain ⟨fd4, F4⟩ := c.def_ 4 (d := dd__need_golden) rfl
  obtain ⟨fd5, F5⟩ := c.def_ 5 (d := dd_sign_of_parts) rfl
  obtain ⟨fd6, F6⟩ := c.def_ 6 (d := dd__order) rfl
  obtain ⟨fd7, F7⟩ := c.def_ 7 (d := dd_sign) rfl
  obtain ⟨fd8, F8⟩ := c.def_ 8 (d := dd_is_below) rfl
  obtain ⟨fd9, F9⟩ := c.def_ 9 (d := dd_are_equal) rfl
  obtain ⟨fd10, F10⟩ := c.def_ 10 (d := dd_integer_below) rfl
  obtain ⟨fd11, F11⟩ := c.def_ 11 (d := dd_integer_above) rfl
  obtain ⟨fd12, F12⟩ := c.def_ 12 (d := dd_is_whole) rfl
  obtain ⟨fd13, F13⟩ := c.def_ 13 (d := dd__law_deck) rfl
  obtain ⟨fd14, F14⟩ := c.def_ 14 (d := dd__law_draw) rfl
  obtain ⟨fd15, F15⟩ := c.def_ 15 (d := dd__law_pick) rfl
  obtain ⟨fd16, F16⟩ := c.def_ 16 (d := dd__law_integer) rfl
  obtain ⟨fd17, F17⟩ := c.def_ 17 (d := dd__law_sign) rfl
  obtain ⟨fd18, F18⟩ := c.def_ 18 (d := dd__law_same) rfl
  obtain ⟨fd19, F19⟩ := c.def_ 19 (d := dd__law_thin) rfl
  obtain ⟨fd20, F20⟩ := c.def_ 20 (d := dd__law_golden) rfl
  obtain ⟨fd21, F21⟩ := c.def_ 21 (d := dd__law_other) rfl
  obtain ⟨fd22, F22⟩ := c.def_ 22 (d := dd__law_apart) rfl
  obtain ⟨fd23, F23⟩ := c.def_ 23 (d := dd__law_is_between) rfl
  obtain ⟨fd24, F24⟩ := c.def_ 24 (d := dd__law_are_right) rfl
  obtain ⟨fd25, F25⟩ := c.def_ 25 (d := dd_law) rfl
  have ce0 := ce
  let t : Tx K mg := ⟨_,
    fd0,
    F0,
    (He.glo_ok X G (c.fact 0 (f := .glo "is_plain_integer") rfl)),
    _,
    fd1,
    F1,
    (He.glo_ok X G (c.fact 1 (f := .glo "is_tuple_of") rfl)),
    _,
    fd2,
    F2,
    (He.glo_ok X G (c.fact 2 (f := .glo "are_plain_integers") rfl)),
    _,
    fd3,
    F3,
    (He.glo_ok X G (c.fact 3 (f := .glo "is_golden") rfl)),
    _,
    fd4,
    F4,
    (He.glo_ok X G (c.fact 4 (f := .glo "_need_golden") rfl)),
    _,
    fd5,
    F5,
    (He.glo_ok X G (c.fact 5 (f := .glo "sign_of_parts") rfl)),
    _,
    fd6,
    F6,
    (He.glo_ok X G (c.fact 6 (f := .glo "_order") rfl)),
    _,
    fd7,
    F7,
    (He.glo_ok X G (c.fact 7 (f := .glo "sign") rfl)),
    _,
    fd8,
    F8,
    (He.glo_ok X G (c.fact 8 (f := .glo "is_below") rfl)),
    _,
    fd9,
    F9,
    (He.glo_ok X G (c.fact 9 (f := .glo "are_equal") rfl)),
    _,
    fd10,
    F10,
    (He.glo_ok X G (c.fact 10 (f := .glo "integer_below") rfl)),
    _,
    fd11,
    F11,
    (He.glo_ok X G (c.fact 11 (f := .glo "integer_above") rfl)),
    _,
    fd12,
    F12,
    (He.glo_ok X G (c.fact 12 (f := .glo "is_whole") rfl)),
    _,
    fd13,
    F13,
    (He.glo_ok X G (c.fact 13 (f := .glo "_law_deck") rfl)),
    _,
    fd14,
    F14,
    (He.glo_ok X G (c.fact 14 (f := .glo "_law_draw") rfl)),
    _,
    fd15,
    F15,
    (He.glo_ok X G (c.fact 15 (f := .glo "_law_pick") rfl)),
    _,
    fd16,
    F16,
    (He.glo_ok X G (c.fact 16 (f := .glo "_law_integer") rfl)),
    _,
    fd17,
    F17,
    (He.glo_ok X G (c.fact 17 (f := .glo "_law_sign") rfl)),
    _,
    fd18,
    F18,
    (He.glo_ok X G (c.fact 18 (f := .glo "_law_same") rfl)),
    _,
    fd19,
    F19,
    (He.glo_ok X G (c.fact 19 (f := .glo "_law_thin") rfl)),
    _,
    fd20,
    F20,
    (He.glo_ok X G (c.fact 20 (f := .glo "_law_golden") rfl)),
    _,
    fd21,
    F21,
    (He.glo_ok X G (c.fact 21 (f := .glo "_law_other") rfl)),
    _,
    fd22,
    F22,
    (He.glo_ok X G (c.fact 22 (f := .glo "_law_apart") rfl)),
    _,
    fd23,
    F23,
    (He.glo_ok X G (c.fact 23 (f := .glo "_law_is_between") rfl)),
    _,
    fd24,
    F24,
    (He.glo_ok X G (c.fact 24 (f := .glo "_law_are_right") rfl)),
    _,
    fd25,
    F25,
    (He.glo_ok X G (c.fact 25 (f := .glo "law") rfl)),
    (He.free_ok X G (c.fact 26 (f := .free "abs") rfl)),
    (He.free_ok X G (c.fact 27 (f := .free "all") rfl)),
    (He.free_ok X G (c.fact 28 (f := .free "bool") rfl)),
    (He.free_ok X G (c.fact 29 (f := .free "int") rfl)),
    (He.free_ok X G (c.fact 30 (f := .free "isinstance") rfl)),
    (He.free_ok X G (c.fact 31 (f := .free "len") rfl)),
    (He.free_ok X G (c.fact 32 (f := .free "list") rfl)),
    (He.free_ok X G (c.fact 33 (f := .free "max") rfl)),
    (He.free_ok X G (c.fact 34 (f := .free "range") rfl)),
    (He.free_ok X G (c.fact 35 (f := .free "repr") rfl)),
    (He.free_ok X G (c.fact 36 (f := .free "tuple") rfl)),
    (blt_ok X G ce0)⟩
  have e := hfa.symm.trans t.m_law
  cases e
  have b := FunD.bindsA (ps := ["_law_script"]) t.F_law fun _ _ _ _ _ _ us hl => match us, hl with | [_], _ => rfl
  exact ⟨t.d_law, fun s v => b s [v] rfl, fun base _ _ => ok_law t⟩
end K07
open PySem PySem.W PySem.Calls PyProof.Rows
set_option maxRecDepth 100000 in
set_option maxHeartbeats 0 in
theorem PySem.Challenge.cw_nevertwice_k07_signs_order_and_integers_holds : PySem.Challenge.rw_nevertwice_k07_signs_order_and_integers.Holds := by
  w_on; o_law
  refine HandSHeadRun.head_imp (r := OpenLaw.row PySem.Challenge.rw_nevertwice_k07_signs_order_and_integers) (q := view (OpenLaw.row PySem.Challenge.rw_nevertwice_k07_signs_order_and_integers).prog [0, 32]) (H := K07.hk) (ob := K07.ob) (M := 2980) (loose := K07.nms) (d := HandSHeadRun.topDef (OpenLaw.row PySem.Challenge.rw_nevertwice_k07_signs_order_and_integers).prog 32) (kwd := []) K07.ob_eq
    K07.run (by kernel_rfl) (by kernel_rfl) (by kernel_rfl) (by rfl) (by first | assumption | decide +kernel) (by decide +kernel) ⟨rfl, rfl, rfl, rfl, rfl, by decide +kernel⟩ ?hw ?hc
  case hw => w_witness2
  case hc =>
    refine DL.walk_ofG (l := PySem.Challenge.rw_nevertwice_k07_signs_order_and_integers) (n := 63) (k := 8) (x := "_law_script") rfl (by decide) (by kernel_rfl) ⟨⟨rfl, by decide, by decide⟩, rfl⟩ ?F
    intro w mg fa h Y G hmg0
    obtain ⟨K, KX, c, ce⟩ := Y
    have hmg : mg ("law" : PySem.Str) = some (.ref fa) := by
      have e : (HandSHeadRun.topDef (OpenLaw.row PySem.Challenge.rw_nevertwice_k07_signs_order_and_integers).prog 32).name = ("law" : PySem.Str) := by kernel_rfl
      rw [← e]
      exact hmg0
    obtain ⟨fd, hb, hF⟩ := K07.facts (P := (PySem.Challenge.rw_nevertwice_k07_signs_order_and_integers).prog) (w := w) KX G hmg c ce
    exact ⟨K, fd, DL.spLaw K 2 K07.T_law, KX, hb, fun H a ns hl hS => ⟨a, ns, rfl, hS, hl, K07.math, fun _ => rfl⟩, hF⟩
