import PyProof.Rows.All
import Wide.All
import OpenK.AllK
import Wide.FinOn
import PyProof.EqAt
import PyProof.EqKinds
import PyProof.TupleCall
import HandS.ForMost
import HandS.Exc
import HandS.TryOnly
import HandS.ExcOwn
import HandS.WordsExc
import HandS.Zip
import HandS.IsInst
import HandS.Style
import HandS.Wide
import HandS.WideBits
import HandS.Gcd
import HandS.TupAny
import HandS.Deep
import HandS.ExcInit
import HandS.ExcField
import HandS.GenBody
import HandS.GenYield
import HandS.GenList
import HandS.List
import PyProof.Rows.SeqMore
import HandS.Ends
import PyProof.Rows.RegFStrParts
import HandS.ForSpec
import HandS.ExcIs
import PySem.Challenge.RW_closereckoned_k01_whole_settings_and_quo
set_option Elab.async false
set_option linter.all false
set_option autoImplicit false
set_option maxRecDepth 100000
set_option maxHeartbeats 4000000
/-! Dn: a reading of a def as a Lean function of plain data. -/
namespace Dn
open PySem PySem.Spec PyProof.Rows L2

/-- a value, by its data: d data that stays; l a new list that nobody else holds; b such a list, held by a name; h the resource -/
inductive SV where
  | d (x : PyData) | l (xs : List PyData) | b (xs : List PyData) | h
abbrev Env := List (Option SV)

/-- a resource: its objects, its state -/
structure Rs (γ : Type) where
  top : Addr
  fp : Addr → Prop
  R : γ → Hp → Prop
  loc : ∀ g H H', (∀ a, fp a → H' a = H a) → R g H → R g H'
  there : ∀ g H a, R g H → fp a → H a ≠ none
def rs0 : Rs Unit := ⟨0, fun _ => False, fun _ _ => True, fun _ _ _ _ h => h, fun _ _ _ _ h => h.elim⟩

inductive Out (γ : Type) where
  | ok (y : SV) (g : γ) | exc (C : Addr) (fs : List (Str × PyData)) (g : γ) | stuck

/-- the parameters of a def's reading: the written part, the resource, the heap and the data at the entry, the wish about exceptions -/
structure Pm (γ : Type) where
  K : PySem.W.Frag
  rs : Rs γ
  H0 : Hp
  D0 : Hp
  W : WX

abbrev Sub (D H : Hp) : Prop := ∀ a o, D a = some o → H a = some o

structure Grow (fp : Addr → Prop) (H D H' D' : Hp) : Prop where
  keep : ∀ a o, ¬ fp a → H a = some o → H' a = some o
  th : ∀ a, H a ≠ none → H' a ≠ none
  dk : Sub D D'
  dn : ∀ a, H a ≠ none → D a = none → D' a = none
/-- nothing that was there changes -/
structure LG (H D H' D' : Hp) : Prop where
  keep : Sub H H'
  dk : Sub D D'
  dn : ∀ a, H a ≠ none → D a = none → D' a = none
  sub : Sub D' H'

theorem ne_none {H : Hp} {a : Addr} {o : HO} (h : H a = some o) : H a ≠ none := by rw [h]; exact fun z => nomatch z
theorem of_ne {H : Hp} {a : Addr} (h : H a ≠ none) : ∃ o, H a = some o := by
  cases e : H a with
  | none => exact absurd e h
  | some o => exact ⟨o, rfl⟩
theorem Grow.refl {fp : Addr → Prop} {H D : Hp} : Grow fp H D H D := ⟨fun _ _ _ h => h, fun _ h => h, fun _ _ h => h, fun _ _ h => h⟩
theorem Grow.trans {fp : Addr → Prop} {H D H1 D1 H2 D2 : Hp} (a : Grow fp H D H1 D1) (b : Grow fp H1 D1 H2 D2) : Grow fp H D H2 D2 :=
  ⟨fun x o n h => b.keep x o n (a.keep x o n h), fun x h => b.th x (a.th x h), fun x o h => b.dk x o (a.dk x o h), fun x h n => b.dn x (a.th x h) (a.dn x h n)⟩
theorem LG.refl {H D : Hp} (s : Sub D H) : LG H D H D := ⟨fun _ _ h => h, fun _ _ h => h, fun _ _ h => h, s⟩
theorem LG.grow {fp : Addr → Prop} {H D H' D' : Hp} (a : LG H D H' D') : Grow fp H D H' D' :=
  ⟨fun x o _ h => a.keep x o h, fun x h => let ⟨o, e⟩ := of_ne h; ne_none (a.keep x o e), a.dk, a.dn⟩
theorem LG.trans {H D H1 D1 H2 D2 : Hp} (a : LG H D H1 D1) (b : LG H1 D1 H2 D2) : LG H D H2 D2 :=
  ⟨fun x o h => b.keep x o (a.keep x o h), fun x o h => b.dk x o (a.dk x o h), fun x h n => b.dn x (let ⟨o, e⟩ := of_ne h; ne_none (a.keep x o e)) (a.dn x h n), b.sub⟩
/-- an object laid; and laid as data -/
theorem LG.new {H D : Hp} {p : Addr} {o : HO} (s : Sub D H) (h : H p = none) : LG H D (upd H p o) D :=
  ⟨fun a u e => by rw [upd_ne (ne_of_none e h)]; exact e, fun _ _ e => e, fun _ _ e => e, fun a u e => by rw [upd_ne (ne_of_none (s a u e) h)]; exact s a u e⟩
theorem LG.newD {H D : Hp} {p : Addr} {o : HO} (s : Sub D H) (h : H p = none) : LG H D (upd H p o) (upd D p o) := by
  have hd : D p = none := by
    cases e : D p with
    | none => rfl
    | some u => rw [s p u e] at h; cases h
  refine ⟨fun a u e => by rw [upd_ne (ne_of_none e h)]; exact e, fun a u e => by rw [upd_ne (ne_of_none e hd)]; exact e, fun a n e => ?_, fun a u e => ?_⟩
  · have : a ≠ p := fun z => n (z ▸ h)
    rw [upd_ne this]; exact e
  · by_cases z : a = p
    · subst z; rw [upd_same] at e ⊢; exact e
    · rw [upd_ne z] at e ⊢; exact s a u e
/-- a new list becomes data -/
theorem LG.frz {H D : Hp} {p : Addr} {o : HO} (s : Sub D H) (h : H p = some o) (hd : D p = none) : Sub D (upd D p o) ∧ Sub (upd D p o) H :=
  ⟨fun a u e => by rw [upd_ne (ne_of_none e hd)]; exact e, fun a u e => by
    by_cases z : a = p
    · subst z; rw [upd_same] at e; cases e; exact h
    · rw [upd_ne z] at e; exact s a u e⟩

section
variable {K : PySem.W.Frag} {D D' : Hp}
theorem Sub.rd (s : Sub D D') {a : Addr} {u : HO} (h : Rd D a u) : Rd D' a u := by
  rcases h with h | ⟨o, h⟩
  · exact .inl (s _ _ h)
  · exact .inr ⟨o, s _ _ h⟩
theorem Sub.sl (s : Sub D D') {a : Addr} {xs : List V} (h : SqL K D a xs) : SqL K D' a xs := by
  rcases h with h | h
  · exact .inl (s.rd h)
  · exact .inr h
theorem Sub.st (s : Sub D D') {a : Addr} {xs : List V} (h : SqT K D a xs) : SqT K D' a xs := by
  rcases h with h | h
  · exact .inl (s.rd h)
  · exact .inr h
mutual
theorem Dp.up (s : Sub D D') : ∀ (d : PyData) (v : V), Dp K D v d → Dp K D' v d
  | .none, _, h => by cases h; exact .non
  | .bool _, _, h => by cases h; exact .bl _
  | .int _, _, h => by cases h; exact .int _
  | .str _, _, h => by cases h; exact .str _
  | .list ds, _, h => by
    cases h with
    | lst a b => exact .lst (Sub.sl s a) (DpAll.up s ds _ b)
  | .tuple ds, _, h => by
    cases h with
    | tup a b => exact .tup (Sub.st s a) (DpAll.up s ds _ b)
  | .dict _, _, h => by cases h
theorem DpAll.up (s : Sub D D') : ∀ (ds : List PyData) (vs : List V), DpAll K D vs ds → DpAll K D' vs ds
  | [], _, h => by cases h; exact .nil
  | d :: ds, _, h => by
    cases h with
    | cons a b => exact .cons (Dp.up s d _ a) (DpAll.up s ds _ b)
end
theorem DpAll.len : ∀ {vs : List V} {ds : List PyData}, DpAll K D vs ds → vs.length = ds.length
  | _, _, .nil => rfl
  | _, _, .cons _ t => by simp [DpAll.len t]
theorem DpAll.get : ∀ {vs : List V} {ds : List PyData} {i : Nat} {d : PyData}, DpAll K D vs ds → ds[i]? = some d → ∃ v, vs[i]? = some v ∧ Dp K D v d
  | _, _, _, _, .nil, e => by simp at e
  | _, _, 0, _, .cons a t, e => by simp at e; subst e; exact ⟨_, rfl, a⟩
  | _, _, i + 1, d, .cons _ t, e => by
    obtain ⟨v, h1, h2⟩ := DpAll.get (i := i) (d := d) t (by simpa using e)
    exact ⟨v, by simpa using h1, h2⟩
theorem DpAll.getV : ∀ {vs : List V} {ds : List PyData} {i : Nat} {v : V}, DpAll K D vs ds → vs[i]? = some v → ∃ d, ds[i]? = some d ∧ Dp K D v d
  | _, _, _, _, .nil, e => by simp at e
  | _, _, 0, _, .cons a t, e => by simp at e; subst e; exact ⟨_, rfl, a⟩
  | _, _, i + 1, d, .cons _ t, e => by
    obtain ⟨v, h1, h2⟩ := DpAll.getV (i := i) (v := d) t (by simpa using e)
    exact ⟨v, by simpa using h1, h2⟩
theorem DpAll.app : ∀ {vs us : List V} {ds es : List PyData}, DpAll K D vs ds → DpAll K D us es → DpAll K D (vs ++ us) (ds ++ es)
  | _, _, _, _, .nil, h => h
  | _, _, _, _, .cons a t, h => .cons a (DpAll.app t h)
theorem DpAll.take : ∀ {vs : List V} {ds : List PyData} (n : Nat), DpAll K D vs ds → DpAll K D (vs.take n) (ds.take n)
  | _, _, 0, _ => .nil
  | _, _, _ + 1, .nil => .nil
  | _, _, n + 1, .cons a t => .cons a (DpAll.take n t)
theorem DpAll.drop : ∀ {vs : List V} {ds : List PyData} (n : Nat), DpAll K D vs ds → DpAll K D (vs.drop n) (ds.drop n)
  | _, _, 0, h => h
  | _, _, _ + 1, .nil => .nil
  | _, _, n + 1, .cons _ t => DpAll.drop n t
theorem DpAll.rev : ∀ {vs : List V} {ds : List PyData}, DpAll K D vs ds → DpAll K D vs.reverse ds.reverse
  | _, _, .nil => .nil
  | _, _, .cons a t => by rw [List.reverse_cons, List.reverse_cons]; exact DpAll.app (DpAll.rev t) (.cons a .nil)
theorem DpAll.set {v : V} {d : PyData} (h : Dp K D v d) : ∀ {vs : List V} {ds : List PyData} (i : Nat), DpAll K D vs ds → DpAll K D (vs.set i v) (ds.set i d)
  | _, _, _, .nil => .nil
  | _, _, 0, .cons _ t => .cons h t
  | _, _, i + 1, .cons q t => .cons q (DpAll.set h i t)
/-- ints, bools as they lie -/
theorem DpAll.ints : ∀ {vs : List V} {ns : List Int}, DpAll K D vs (ns.map PyData.int) → vs = ns.map V.int
  | _, [], h => by cases h; rfl
  | _, n :: ns, h => by
    cases h with
    | cons a t => cases a; rw [DpAll.ints t]; rfl
theorem DpAll.bls : ∀ {vs : List V} {ns : List Bool}, DpAll K D vs (ns.map PyData.bool) → vs = ns.map V.bl
  | _, [], h => by cases h; rfl
  | _, n :: ns, h => by
    cases h with
    | cons a t => cases a; rw [DpAll.bls t]; rfl
theorem DpAll.of_ints : ∀ (ns : List Int), DpAll K D (ns.map V.int) (ns.map PyData.int)
  | [] => .nil
  | n :: ns => .cons (.int n) (DpAll.of_ints ns)
end

/-- a new list at v: its items are data -/
def LstAt {γ : Type} (K : PySem.W.Frag) (rs : Rs γ) (H D : Hp) (v : V) (xs : List PyData) : Prop := ∃ a vs, v = .ref a ∧ H a = some (.lst vs) ∧ D a = none ∧ ¬ rs.fp a ∧ DpAll K D vs xs
/-- a value as an operand -/
def AR {γ : Type} (K : PySem.W.Frag) (rs : Rs γ) (H D : Hp) (v : V) : SV → Prop
  | .d x => Dp K D v x
  | .l xs => LstAt K rs H D v xs
  | .b xs => LstAt K rs H D v xs
  | .h => v = .ref rs.top
/-- a value as a result: H0 the heap ahead -/
def VR {γ : Type} (K : PySem.W.Frag) (rs : Rs γ) (H0 H D : Hp) (v : V) : SV → Prop
  | .d x => Dp K D v x
  | .l xs => LstAt K rs H D v xs ∧ ∀ a, v = .ref a → H0 a = none
  | .b xs => LstAt K rs H D v xs
  | .h => v = .ref rs.top
section
variable {γ : Type} {K : PySem.W.Frag} {rs : Rs γ} {H0 H D H' D' : Hp} {v : V} {y : SV} {xs : List PyData}
theorem VR.ar (h : VR K rs H0 H D v y) : AR K rs H D v y := by
  cases y with
  | d x => exact h
  | l xs => exact h.1
  | b xs => exact h
  | h => exact h
theorem LstAt.up (g : Grow rs.fp H D H' D') (h : LstAt K rs H D v xs) : LstAt K rs H' D' v xs := by
  obtain ⟨a, vs, e, h1, h2, nf, h3⟩ := h
  exact ⟨a, vs, e, g.keep _ _ nf h1, g.dn _ (ne_none h1) h2, nf, DpAll.up g.dk _ _ h3⟩
/-- an operand stays while another expression runs -/
theorem AR.up (g : Grow rs.fp H D H' D') (h : AR K rs H D v y) : AR K rs H' D' v y := by
  cases y with
  | d x => exact Dp.up g.dk _ _ h
  | l xs => exact LstAt.up g h
  | b xs => exact LstAt.up g h
  | h => exact h
theorem VR.up (g : Grow rs.fp H D H' D') (h : VR K rs H0 H D v y) : VR K rs H0 H' D' v y := by
  cases y with
  | d x => exact Dp.up g.dk _ _ h
  | l xs => exact ⟨LstAt.up g h.1, h.2⟩
  | b xs => exact LstAt.up g h
  | h => exact h
/-- .. from a later heap ahead -/
theorem VR.back {H1 D0 D1 : Hp} (g : Grow rs.fp H0 D0 H1 D1) (h : VR K rs H1 H D v y) : VR K rs H0 H D v y := by
  cases y with
  | d x => exact h
  | l xs => exact ⟨h.1, fun a e => by
      cases q : H0 a with
      | none => rfl
      | some o => exact absurd (h.2 a e) (g.th a (ne_none q))⟩
  | b xs => exact h
  | h => exact h
end

/-- the state of a def's body, by data -/
structure Rep {γ : Type} (P : Pm γ) (σ : L2.St) (H D : Hp) (ρ : Env) (g : γ) : Prop where
  grow : Grow P.rs.fp P.H0 P.D0 H D
  sub : Sub D H
  f0 : ∀ a, P.rs.fp a → P.H0 a ≠ none
  len : ρ.length = σ.length
  slot : ∀ (i : Nat) (y : SV), ρ[i]? = some (some y) → ∃ v, σ[i]? = some (some v) ∧ AR P.K P.rs H D v y
  own : ∀ (i : Nat) (xs : List PyData) (a : Addr), ρ[i]? = some (some (.l xs)) → σ[i]? = some (some (.ref a)) → P.H0 a = none
  nob : ∀ (i : Nat) (xs : List PyData), ρ[i]? ≠ some (some (.b xs))
  apart : ∀ (i j : Nat) (a b : Addr) (xs ys : List PyData), i ≠ j → ρ[i]? = some (some (.l xs)) → ρ[j]? = some (some (.l ys)) → σ[i]? = some (some (.ref a)) → σ[j]? = some (some (.ref b)) → a ≠ b
  fd : ∀ a, P.rs.fp a → D a = none
  res : P.rs.R g H

section
variable {γ : Type} {P : Pm γ} {σ : L2.St} {H D H' D' : Hp} {ρ : Env} {g g' : γ}
theorem Rep.fpH (r : Rep P σ H D ρ g) {a : Addr} (h : P.rs.fp a) : H a ≠ none := P.rs.there g H a r.res h
theorem Rep.lg (r : Rep P σ H D ρ g) (l : LG H D H' D') : Rep P σ H' D' ρ g := by
  refine ⟨r.grow.trans l.grow, l.sub, r.f0, r.len, fun i y e => ?_, r.own, r.nob, r.apart, fun a h => l.dn a (r.fpH h) (r.fd a h), P.rs.loc g H H' (fun a h => ?_) r.res⟩
  · obtain ⟨v, e1, h⟩ := r.slot i y e
    exact ⟨v, e1, h.up l.grow⟩
  · obtain ⟨o, e⟩ := of_ne (r.fpH h)
    rw [e, l.keep a o e]
/-- behind a call that uses the resource -/
theorem Rep.step (r : Rep P σ H D ρ g) (l : Grow P.rs.fp H D H' D') (s : Sub D' H') (h : P.rs.R g' H') : Rep P σ H' D' ρ g' := by
  refine ⟨r.grow.trans l, s, r.f0, r.len, fun i y e => ?_, r.own, r.nob, r.apart, fun a h => l.dn a (r.fpH h) (r.fd a h), h⟩
  obtain ⟨v, e1, h⟩ := r.slot i y e
  exact ⟨v, e1, h.up l⟩
end
end Dn

set_option Elab.async false
set_option linter.all false
set_option autoImplicit false
set_option maxRecDepth 100000
set_option maxHeartbeats 4000000
namespace Dn
open PySem PySem.Spec PyProof.Rows L2

abbrev Fn (γ : Type) := Env → γ → Out γ
inductive OutA (γ : Type) where
  | ok (ys : List SV) (g : γ) | exc (C : Addr) (fs : List (Str × PyData)) (g : γ) | stuck
abbrev FnA (γ : Type) := Env → γ → OutA γ

abbrev FR (K : PySem.W.Frag) (D : Hp) : List (Str × V) → List (Str × PyData) → Prop := Paired fun p q => p.1 = q.1 ∧ Dp K D p.2 q.2
section
variable {γ : Type}
def ExcQ (P : Pm γ) (σ : L2.St) (H D : Hp) (ρ : Env) (C : Addr) (fs : List (Str × PyData)) (g' : γ) : Prop :=
  ∀ d vfs H' D', Rep P σ H' D' ρ g' → Grow P.rs.fp H D H' D' → H' d = some (.xd vfs) → FR P.K D' vfs fs → P.W (.ref C) (some d) σ H'
def Cont (P : Pm γ) (σ : L2.St) (H D : Hp) (ρ : Env) (o : Out γ) (Q : VK) : Prop :=
  match o with
  | .ok y g' => ∀ v H' D', Rep P σ H' D' ρ g' → Grow P.rs.fp H D H' D' → VR P.K P.rs H H' D' v y → Q v H'
  | .exc C fs g' => ExcQ P σ H D ρ C fs g'
  | .stuck => False
def tD (P : Pm γ) (φ : Fn γ) : TE := fun σ H Q => ∃ D ρ g, Rep P σ H D ρ g ∧ Cont P σ H D ρ (φ ρ g) Q
inductive ARs (K : PySem.W.Frag) (rs : Rs γ) (H D : Hp) : List V → List SV → Prop
  | nil : ARs K rs H D [] []
  | cons {v vs y ys} : AR K rs H D v y → ARs K rs H D vs ys → ARs K rs H D (v :: vs) (y :: ys)
def ContA (P : Pm γ) (σ : L2.St) (H D : Hp) (ρ : Env) (o : OutA γ) (Q : List V → Hp → Prop) : Prop :=
  match o with
  | .ok ys g' => ∀ vs H' D', Rep P σ H' D' ρ g' → Grow P.rs.fp H D H' D' → ARs P.K P.rs H' D' vs ys → Q vs H'
  | .exc C fs g' => ExcQ P σ H D ρ C fs g'
  | .stuck => False
def tDA (P : Pm γ) (φ : FnA γ) : TA := fun σ H Q => ∃ D ρ g, Rep P σ H D ρ g ∧ ContA P σ H D ρ (φ ρ g) Q
def ContT (P : Pm γ) (σ : L2.St) (H D : Hp) (ρ : Env) (o : Out γ) (Q : Bool → Hp → Prop) : Prop :=
  match o with
  | .ok (.d (.bool b)) g' => ∀ H' D', Rep P σ H' D' ρ g' → Grow P.rs.fp H D H' D' → Q b H'
  | .exc C fs g' => ExcQ P σ H D ρ C fs g'
  | _ => False
def tDT (P : Pm γ) (φ : Fn γ) : TT := fun σ H Q => ∃ D ρ g, Rep P σ H D ρ g ∧ ContT P σ H D ρ (φ ρ g) Q

abbrev DE (X : Cx) (P : Pm γ) (e : Expr) (φ : Fn γ) : Prop := PE X e (tD P φ)
abbrev DA (X : Cx) (P : Pm γ) (es : List Expr) (φ : FnA γ) : Prop := PA X es (tDA P φ)
abbrev DT (X : Cx) (P : Pm γ) (e : Expr) (φ : Fn γ) : Prop := PT X e (tDT P φ)

/-- run the rest behind a result -/
def Out.bind (o : Out γ) (k : SV → γ → Out γ) : Out γ := match o with
  | .ok y g => k y g
  | .exc C fs g => .exc C fs g
  | .stuck => .stuck
def Out.bindA (o : Out γ) (k : SV → γ → OutA γ) : OutA γ := match o with
  | .ok y g => k y g
  | .exc C fs g => .exc C fs g
  | .stuck => .stuck
def OutA.bind (o : OutA γ) (k : List SV → γ → Out γ) : Out γ := match o with
  | .ok y g => k y g
  | .exc C fs g => .exc C fs g
  | .stuck => .stuck
def OutA.bindA (o : OutA γ) (k : List SV → γ → OutA γ) : OutA γ := match o with
  | .ok y g => k y g
  | .exc C fs g => .exc C fs g
  | .stuck => .stuck
def Out.of (o : Option SV) (g : γ) : Out γ := match o with
  | some y => .ok y g
  | none => .stuck

variable {X : Cx} {P : Pm γ} {σ : L2.St} {H D H1 D1 H2 D2 : Hp} {ρ : Env} {g g1 g2 : γ} {e a b : Expr} {φ ψ : Fn γ} {Φ Ψ : FnA γ} {t : TE} {pos : Pos} {Q : VK}

theorem PE.imp {t t' : TE} (h : PE X e t) (i : ∀ σ H Q, t' σ H Q → t σ H Q) : PE X e t' := ⟨fun pins s σ H Q I q => h.run pins s σ H Q I (i σ H Q q)⟩
theorem PT.imp {t t' : TT} (h : PT X e t) (i : ∀ σ H Q, t' σ H Q → t σ H Q) : PT X e t' := ⟨fun pins s σ H Q I q => h.run pins s σ H Q I (i σ H Q q)⟩
theorem PA.imp {es : List Expr} {t t' : TA} (h : PA X es t) (i : ∀ σ H Q, t' σ H Q → t σ H Q) : PA X es t' := ⟨fun pos pins s σ H Q I q => h.run pos pins s σ H Q I (i σ H Q q)⟩

theorem ExcQ.back {C : Addr} {fs : List (Str × PyData)} (gr : Grow P.rs.fp H D H1 D1) (h : ExcQ P σ H D ρ C fs g) : ExcQ P σ H1 D1 ρ C fs g :=
  fun d vfs H' D' r g2 h1 h2 => h d vfs H' D' r (gr.trans g2) h1 h2
theorem Cont.back {o : Out γ} (gr : Grow P.rs.fp H D H1 D1) (h : Cont P σ H D ρ o Q) : Cont P σ H1 D1 ρ o Q := by
  cases o with
  | ok y g' => exact fun v H' D' r g2 vr => h v H' D' r (gr.trans g2) (vr.back gr)
  | exc C fs g' => exact ExcQ.back gr h
  | stuck => exact h
theorem ContA.back {o : OutA γ} {Q : List V → Hp → Prop} (gr : Grow P.rs.fp H D H1 D1) (h : ContA P σ H D ρ o Q) : ContA P σ H1 D1 ρ o Q := by
  cases o with
  | ok y g' => exact fun v H' D' r g2 vr => h v H' D' r (gr.trans g2) vr
  | exc C fs g' => exact ExcQ.back gr h
  | stuck => exact h
/-- THE bind: an expression, then what goes on with its value -/
theorem tD_bind {o : SV → γ → Out γ} (r : Rep P σ H D ρ g) (c : Cont P σ H D ρ ((φ ρ g).bind o) Q) {R : VK}
    (k : ∀ y g1 v H1 D1, φ ρ g = .ok y g1 → Rep P σ H1 D1 ρ g1 → Grow P.rs.fp H D H1 D1 → VR P.K P.rs H H1 D1 v y → Cont P σ H1 D1 ρ (o y g1) Q → R v H1) : tD P φ σ H R := by
  refine ⟨D, ρ, g, r, ?_⟩
  cases e : φ ρ g with
  | ok y g1 =>
    rw [e] at c
    exact fun v H1 D1 r1 gr vr => k y g1 v H1 D1 e r1 gr vr (Cont.back gr c)
  | exc C fs g1 =>
    rw [e] at c
    exact c
  | stuck =>
    rw [e] at c
    exact c
theorem tD_bindA {o : SV → γ → OutA γ} {Q : List V → Hp → Prop} (r : Rep P σ H D ρ g) (c : ContA P σ H D ρ ((φ ρ g).bindA o) Q) {R : VK}
    (k : ∀ y g1 v H1 D1, φ ρ g = .ok y g1 → Rep P σ H1 D1 ρ g1 → Grow P.rs.fp H D H1 D1 → VR P.K P.rs H H1 D1 v y → ContA P σ H1 D1 ρ (o y g1) Q → R v H1) : tD P φ σ H R := by
  refine ⟨D, ρ, g, r, ?_⟩
  cases e : φ ρ g with
  | ok y g1 =>
    rw [e] at c
    exact fun v H1 D1 r1 gr vr => k y g1 v H1 D1 e r1 gr vr (ContA.back gr c)
  | exc C fs g1 =>
    rw [e] at c
    exact c
  | stuck =>
    rw [e] at c
    exact c
theorem tDA_bind {o : List SV → γ → Out γ} (r : Rep P σ H D ρ g) (c : Cont P σ H D ρ ((Φ ρ g).bind o) Q) {R : List V → Hp → Prop}
    (k : ∀ ys g1 vs H1 D1, Φ ρ g = .ok ys g1 → Rep P σ H1 D1 ρ g1 → Grow P.rs.fp H D H1 D1 → ARs P.K P.rs H1 D1 vs ys → Cont P σ H1 D1 ρ (o ys g1) Q → R vs H1) : tDA P Φ σ H R := by
  refine ⟨D, ρ, g, r, ?_⟩
  cases e : Φ ρ g with
  | ok y g1 =>
    rw [e] at c
    exact fun v H1 D1 r1 gr vr => k y g1 v H1 D1 e r1 gr vr (Cont.back gr c)
  | exc C fs g1 =>
    rw [e] at c
    exact c
  | stuck =>
    rw [e] at c
    exact c
theorem tDA_bindA {o : List SV → γ → OutA γ} {Q : List V → Hp → Prop} (r : Rep P σ H D ρ g) (c : ContA P σ H D ρ ((Φ ρ g).bindA o) Q) {R : List V → Hp → Prop}
    (k : ∀ ys g1 vs H1 D1, Φ ρ g = .ok ys g1 → Rep P σ H1 D1 ρ g1 → Grow P.rs.fp H D H1 D1 → ARs P.K P.rs H1 D1 vs ys → ContA P σ H1 D1 ρ (o ys g1) Q → R vs H1) : tDA P Φ σ H R := by
  refine ⟨D, ρ, g, r, ?_⟩
  cases e : Φ ρ g with
  | ok y g1 =>
    rw [e] at c
    exact fun v H1 D1 r1 gr vr => k y g1 v H1 D1 e r1 gr vr (ContA.back gr c)
  | exc C fs g1 =>
    rw [e] at c
    exact c
  | stuck =>
    rw [e] at c
    exact c
/-- the end: a value, by a step that keeps all -/
theorem Cont.done {o : Option SV} {y : SV} (r : Rep P σ H D ρ g) (c : Cont P σ H D ρ (Out.of o g) Q) (e : o = some y) {v : V} {H' D' : Hp} (l : LG H D H' D') (vr : VR P.K P.rs H H' D' v y) : Q v H' := by
  subst e
  exact c v H' D' (r.lg l) l.grow vr
theorem Cont.of_some {o : Option SV} (c : Cont P σ H D ρ (Out.of o g) Q) : ∃ y, o = some y := by
  cases o with
  | none => exact False.elim c
  | some y => exact ⟨y, rfl⟩

/-! ### names, constants -/
def fVar (i : Nat) : Fn γ := fun ρ g => match ρ[i]? with
  | some (some (.d x)) => .ok (.d x) g
  | some (some (.l xs)) => .ok (.b xs) g
  | some (some .h) => .ok .h g
  | _ => .stuck
def fC (x : PyData) : Fn γ := fun _ g => .ok (.d x) g
theorem de_pe {i : Nat} (h : PE X e (tVar i)) : DE X P e (fVar i) := PE.imp h fun σ H Q ⟨D, ρ, g, r, c⟩ => by
  unfold fVar at c
  split at c
  · rename_i x e
    obtain ⟨v, e1, h⟩ := r.slot i _ e
    exact ⟨v, e1, c v H D r .refl h⟩
  · rename_i xs e
    obtain ⟨v, e1, h⟩ := r.slot i _ e
    exact ⟨v, e1, c v H D r .refl h⟩
  · rename_i e
    obtain ⟨v, e1, h⟩ := r.slot i _ e
    exact ⟨v, e1, c v H D r .refl h⟩
  · exact c.elim
theorem dvar (i : Nat) {x : Str} {pos : Pos} (hN : X.N[i]? = some x := by rfl) (hv : Vis X.env.scope x := by first | exact Or.inl rfl | exact Or.inr (Or.inl rfl) | exact Or.inr (Or.inr rfl)) (hd : (x == ("__debug__" : Str)) = false := by decide)
    (hcd : (x == ("__classdict__" : Str)) = false := by decide) : DE X P (.Name x pos) (fVar i) := de_pe (pe_var hN hv hd hcd)
theorem de_c {v : V} {x : PyData} (h : PE X e (tC v)) (d : ∀ D, Dp P.K D v x) : DE X P e (fC x) := PE.imp h fun σ H Q ⟨D, ρ, g, r, c⟩ => c v H D r .refl (d D)
theorem dint {i : Int} {j : Nat} : DE X P (.Constant (.int i) j pos) (fC (.int i)) := de_c pe_int fun _ => .int i
theorem dbl {i : Bool} {j : Nat} : DE X P (.Constant (.bool i) j pos) (fC (.bool i)) := de_c pe_bl fun _ => .bl i
theorem dnon {j : Nat} : DE X P (.Constant .none j pos) (fC .none) := de_c pe_non fun _ => .non
theorem dstr {i : Str} {j : Nat} : DE X P (.Constant (.str i) j pos) (fC (.str i)) := de_c pe_str fun _ => .str i

/-! ### operators -/
def OpOk (K : PySem.W.Frag) (r : R2) (F : SV → SV → Option SV) : Prop := ∀ {γ : Type} (rs : Rs γ) (H D : Hp) (vx vy : V) (x y z : SV) (Q : VK), Sub D H → (∀ a, rs.fp a → H a ≠ none) → AR K rs H D vx x → AR K rs H D vy y → F x y = some z →
  (∀ v H' D', LG H D H' D' → VR K rs H H' D' v z → Q v H') → r vx vy H Q
def UnOk (K : PySem.W.Frag) (r : V → Hp → VK → Prop) (F : SV → Option SV) : Prop := ∀ {γ : Type} (rs : Rs γ) (H D : Hp) (vx : V) (x z : SV) (Q : VK), Sub D H → (∀ a, rs.fp a → H a ≠ none) → AR K rs H D vx x → F x = some z →
  (∀ v H' D', LG H D H' D' → VR K rs H H' D' v z → Q v H') → r vx H Q
def CrOk (K : PySem.W.Frag) (r : List V → Hp → VK → Prop) (F : List SV → Option SV) : Prop := ∀ {γ : Type} (rs : Rs γ) (H D : Hp) (vs : List V) (ys : List SV) (z : SV) (Q : VK), Sub D H → (∀ a, rs.fp a → H a ≠ none) → ARs K rs H D vs ys → F ys = some z →
  (∀ v H' D', LG H D H' D' → VR K rs H H' D' v z → Q v H') → r vs H Q
def fOp (F : SV → SV → Option SV) (φ ψ : Fn γ) : Fn γ := fun ρ g => (φ ρ g).bind fun x g1 => (ψ ρ g1).bind fun y g2 => .of (F x y) g2
def fUn (F : SV → Option SV) (φ : Fn γ) : Fn γ := fun ρ g => (φ ρ g).bind fun x g1 => .of (F x) g1
def fCB (F : List SV → Option SV) (Φ : FnA γ) : Fn γ := fun ρ g => (Φ ρ g).bind fun x g1 => .of (F x) g1
theorem tOp_of {r : R2} {F : SV → SV → Option SV} (ok : OpOk P.K r F) {σ : L2.St} {H : Hp} {Q : VK} (h : tD P (fOp F φ ψ) σ H Q) : tOp r (tD P φ) (tD P ψ) σ H Q := by
  obtain ⟨D, ρ, g, r, c⟩ := h
  refine tD_bind r c fun x g1 vx H1 D1 _ r1 gr1 v1 c1 => ?_
  refine tD_bind r1 c1 fun y g2 vy H2 D2 _ r2 gr2 v2 c2 => ?_
  obtain ⟨z, hz⟩ := Cont.of_some c2
  exact ok P.rs H2 D2 vx vy x y z Q r2.sub (fun _ h => r2.fpH h) (v1.ar.up gr2) v2.ar hz fun v H' D' l vr => Cont.done r2 c2 hz l vr
theorem dop {op : Operator} {r : R2} {F : SV → SV → Option SV} (ho : OpR X (binaryOp op) r) (ok : OpOk P.K r F) (ha : DE X P a φ) (hb : DE X P b ψ) : DE X P (.BinOp a op b pos) (fOp F φ ψ) :=
  PE.imp (pe_op ho ha hb) fun _ _ _ => tOp_of ok
theorem dcmp {op : CmpOp} {r : R2} {F : SV → SV → Option SV} (ho : OpR X (compareOp op) r) (ok : OpOk P.K r F) (ha : DE X P a φ) (hb : DE X P b ψ) (hm : behindInMarks op b = false := by first | rfl | exact nomark _) : DE X P (.Compare a [op] [b] pos) (fOp F φ ψ) :=
  PE.imp (pe_cmpR ho ha hb hm) fun _ _ _ => tOp_of ok
theorem dix {r : R2} {F : SV → SV → Option SV} (ho : IxR X r) (ok : OpOk P.K r F) (ha : DE X P a φ) (hb : DE X P b ψ) (hs : PlainIx b := by exact fun _ _ => rfl) : DE X P (.Subscript a b pos) (fOp F φ ψ) :=
  PE.imp (pe_ix ho ha hb hs) fun _ _ _ => tOp_of ok
theorem dun {op : UnaryOp} {r : V → Hp → VK → Prop} {F : SV → Option SV} (ho : UnR X (unaryOp op) r) (ok : UnOk P.K r F) (ha : DE X P a φ) : DE X P (.UnaryOp op a pos) (fUn F φ) :=
  PE.imp (pe_un ho ha) fun σ H Q ⟨D, ρ, g, r, c⟩ => by
    refine tD_bind r c fun x g1 vx H1 D1 _ r1 gr1 v1 c1 => ?_
    obtain ⟨z, hz⟩ := Cont.of_some c1
    exact ok P.rs H1 D1 vx x z Q r1.sub (fun _ h => r1.fpH h) v1.ar hz fun v H' D' l vr => Cont.done r1 c1 hz l vr
theorem tCB_of {r : List V → Hp → VK → Prop} {F : List SV → Option SV} (ok : CrOk P.K r F) {σ : L2.St} {H : Hp} {Q : VK} (h : tD P (fCB F Φ) σ H Q) : tCB r (tDA P Φ) σ H Q := by
  obtain ⟨D, ρ, g, r, c⟩ := h
  refine tDA_bind r c fun x g1 vx H1 D1 _ r1 gr1 v1 c1 => ?_
  obtain ⟨z, hz⟩ := Cont.of_some c1
  exact ok P.rs H1 D1 vx x z Q r1.sub (fun _ h => r1.fpH h) v1 hz fun v H' D' l vr => Cont.done r1 c1 hz l vr

/-! ### argument lists -/
def aNil : FnA γ := fun _ g => .ok [] g
def aCons (φ : Fn γ) (Φ : FnA γ) : FnA γ := fun ρ g => (φ ρ g).bindA fun y g1 => (Φ ρ g1).bindA fun ys g2 => .ok (y :: ys) g2
theorem danil : DA X P [] aNil := PA.imp pa_nil fun σ H Q ⟨D, ρ, g, r, c⟩ => c [] H D r .refl .nil
theorem dacons {es : List Expr} (h : DE X P e φ) (t : DA X P es Φ) (hs : starEach (e :: es) X.env = (false, eval e X.env) :: starEach es X.env := by rfl) : DA X P (e :: es) (aCons φ Φ) :=
  PA.imp (pa_cons h t hs) fun σ H Q ⟨D, ρ, g, r, c⟩ => by
    refine tD_bindA r c fun x g1 vx H1 D1 _ r1 gr1 v1 c1 => ?_
    refine tDA_bindA r1 c1 fun xs g2 vs H2 D2 _ r2 gr2 v2 c2 => ?_
    exact c2 (vx :: vs) H2 D2 r2 .refl (.cons (v1.ar.up gr2) v2)
end
end Dn

set_option Elab.async false
set_option linter.all false
set_option autoImplicit false
set_option maxRecDepth 100000
set_option maxHeartbeats 4000000
namespace Dn
open PySem PySem.Spec PyProof.Rows L2
section
variable {γ : Type} {X : Cx} {P : Pm γ} {σ : L2.St} {H D H1 D1 H2 D2 H' D' : Hp} {ρ : Env} {g g1 g2 : γ} {e a b c : Expr} {φ ψ τ : Fn γ} {Φ Ψ : FnA γ} {t : TE} {pos : Pos} {Q : VK}

theorem Rep.in_ (r : Rep P σ H D ρ g) {i : Nat} (h : i < ρ.length) : i < σ.length := r.len ▸ h
/-- a slot gets a value -/
theorem Rep.put (r : Rep P σ H D ρ g) {i : Nat} {v : V} {y : SV} (hi : i < ρ.length) (h : AR P.K P.rs H D v y) (hb : ∀ xs, y ≠ .b xs)
    (hl : ∀ (xs : List PyData) (a : Addr), y = .l xs → v = .ref a → P.H0 a = none ∧ ∀ (j : Nat) (zs : List PyData), ρ[j]? = some (some (.l zs)) → σ[j]? ≠ some (some (.ref a))) : Rep P (σ.set i (some v)) H D (ρ.set i (some y)) g := by
  have hi' := r.in_ hi
  refine ⟨r.grow, r.sub, r.f0, by simpa using r.len, fun j z e => ?_, fun j xs a e1 e2 => ?_, fun j xs e => ?_, fun j k p q xs ys ne e1 e2 e3 e4 => ?_, r.fd, r.res⟩
  · by_cases hj : j = i
    · subst hj
      rw [List.getElem?_set_self hi] at e
      cases e
      exact ⟨v, List.getElem?_set_self hi', h⟩
    · rw [List.getElem?_set_ne (Ne.symm hj)] at e
      obtain ⟨w, e1, h1⟩ := r.slot j z e
      exact ⟨w, by rw [List.getElem?_set_ne (Ne.symm hj)]; exact e1, h1⟩
  · by_cases hj : j = i
    · subst hj
      rw [List.getElem?_set_self hi] at e1
      rw [List.getElem?_set_self hi'] at e2
      injection e1 with e1
      injection e1 with e1
      injection e2 with e2
      injection e2 with e2
      exact (hl xs a e1 e2).1
    · rw [List.getElem?_set_ne (Ne.symm hj)] at e1 e2
      exact r.own j xs a e1 e2
  · by_cases hj : j = i
    · subst hj
      rw [List.getElem?_set_self hi] at e
      injection e with e
      injection e with e
      exact hb xs e
    · rw [List.getElem?_set_ne (Ne.symm hj)] at e
      exact r.nob j xs e
  · by_cases hj : j = i
    · subst hj
      have hk : k ≠ j := Ne.symm ne
      rw [List.getElem?_set_self hi] at e1
      rw [List.getElem?_set_self hi'] at e3
      rw [List.getElem?_set_ne (Ne.symm hk)] at e2 e4
      injection e1 with e1
      injection e1 with e1
      injection e3 with e3
      injection e3 with e3
      intro z
      subst z
      exact (hl xs p e1 e3).2 k ys e2 e4
    · by_cases hk : k = i
      · subst hk
        rw [List.getElem?_set_self hi] at e2
        rw [List.getElem?_set_self hi'] at e4
        rw [List.getElem?_set_ne (Ne.symm hj)] at e1 e3
        injection e2 with e2
        injection e2 with e2
        injection e4 with e4
        injection e4 with e4
        intro z
        subst z
        exact (hl ys p e2 e4).2 j xs e1 e3
      · rw [List.getElem?_set_ne (Ne.symm hj)] at e1 e3
        rw [List.getElem?_set_ne (Ne.symm hk)] at e2 e4
        exact r.apart j k p q xs ys ne e1 e2 e3 e4
/-- from an expression's result -/
theorem Rep.store {v : V} {y : SV} {i : Nat} (r0 : Rep P σ H D ρ g) (r : Rep P σ H' D' ρ g1) (hi : i < ρ.length) (h : VR P.K P.rs H H' D' v y) (hb : ∀ xs, y ≠ .b xs) : Rep P (σ.set i (some v)) H' D' (ρ.set i (some y)) g1 := by
  refine r.put hi h.ar hb fun xs a e1 e2 => ?_
  subst e1
  have hn : H a = none := h.2 a e2
  refine ⟨?_, fun j zs e3 e4 => ?_⟩
  · cases q : P.H0 a with
    | none => rfl
    | some o => exact absurd hn (r0.grow.th a (ne_none q))
  · obtain ⟨w, e5, h5⟩ := r0.slot j _ e3
    rw [e4] at e5
    cases e5
    obtain ⟨a', vs, e6, h6, _⟩ := h5
    cases e6
    rw [hn] at h6
    cases h6
theorem Rep.forget (r : Rep P σ H D ρ g) (i : Nat) : Rep P (σ.set i none) H D (ρ.set i none) g := by
  have key : ∀ (l : Env) (j : Nat) y, (l.set i none)[j]? = some (some y) → j ≠ i ∧ l[j]? = some (some y) := fun l j y e => by
    by_cases hj : j = i
    · subst hj
      rw [List.getElem?_set] at e
      split at e <;> simp_all
    · exact ⟨hj, by rwa [List.getElem?_set_ne (Ne.symm hj)] at e⟩
  have key2 : ∀ (l : L2.St) (j : Nat) y, (l.set i none)[j]? = some (some y) → l[j]? = some (some y) := fun l j y e => by
    by_cases hj : j = i
    · subst hj
      rw [List.getElem?_set] at e
      split at e <;> simp_all
    · rwa [List.getElem?_set_ne (Ne.symm hj)] at e
  refine ⟨r.grow, r.sub, r.f0, by simpa using r.len, fun j z e => ?_, fun j xs a e1 e2 => r.own j xs a (key _ _ _ e1).2 (key2 _ _ _ e2), fun j xs e => r.nob j xs (key _ _ _ e).2,
    fun j k p q xs ys ne e1 e2 e3 e4 => r.apart j k p q xs ys ne (key _ _ _ e1).2 (key _ _ _ e2).2 (key2 _ _ _ e3) (key2 _ _ _ e4), r.fd, r.res⟩
  obtain ⟨hj, e'⟩ := key _ _ _ e
  obtain ⟨w, e1, h1⟩ := r.slot j z e'
  exact ⟨w, by rw [List.getElem?_set_ne (Ne.symm hj)]; exact e1, h1⟩
/-- an own list, held by a slot, becomes data -/
def frzAt (i : Nat) (ρ : Env) : Env := match ρ[i]? with
  | some (some (.l xs)) => ρ.set i (some (.d (.list xs)))
  | _ => ρ
theorem set_same {α : Type} : ∀ {l : List α} {i : Nat} {x : α}, l[i]? = some x → l.set i x = l
  | [], _, _, h => by simp at h
  | a :: l, 0, x, h => by simp at h; subst h; rfl
  | a :: l, i + 1, x, h => by
    have h' : l[i]? = some x := by simpa using h
    show a :: l.set i x = a :: l
    rw [set_same h']
theorem Rep.frz (r : Rep P σ H D ρ g) (i : Nat) : ∃ D', Rep P σ H D' (frzAt i ρ) g ∧ Sub D D' := by
  unfold frzAt
  split
  · rename_i xs e
    obtain ⟨v, e1, a, vs, rfl, h1, h2, nf, h3⟩ := r.slot i _ e
    have hi : i < ρ.length := (List.getElem?_eq_some_iff.mp e).1
    have h0 : P.H0 a = none := r.own i xs a e e1
    obtain ⟨s1, s2⟩ := LG.frz (o := .lst vs) r.sub h1 h2
    refine ⟨upd D a (.lst vs), ⟨⟨r.grow.keep, r.grow.th, fun x o hx => s1 _ _ (r.grow.dk x o hx), fun x hx hn => ?_⟩, s2, r.f0, by simpa using r.len, fun j z ej => ?_, fun j ys b e2 e3 => ?_, fun j ys ej => ?_, fun j k p q xs ys ne e1 e2 e3 e4 => ?_, fun x hx => ?_, r.res⟩, s1⟩
    · have hne : x ≠ a := fun z => hx (by rw [z]; exact h0)
      rw [upd_ne hne]
      exact r.grow.dn x hx hn
    · by_cases hj : j = i
      · subst hj
        rw [List.getElem?_set_self hi] at ej
        cases ej
        exact ⟨_, e1, Dp.lst (SqL.of upd_same) (DpAll.up s1 _ _ h3)⟩
      · rw [List.getElem?_set_ne (Ne.symm hj)] at ej
        obtain ⟨w, e5, h5⟩ := r.slot j z ej
        refine ⟨w, e5, ?_⟩
        have key : ∀ ys, LstAt P.K P.rs H D w ys → (z = .l ys ∨ z = .b ys) → LstAt P.K P.rs H (upd D a (.lst vs)) w ys := fun ys hl hz => by
          obtain ⟨b, us, rfl, k1, k2, k3, k4⟩ := hl
          have hb : b ≠ a := by
            rcases hz with hz | hz
            · subst hz
              exact r.apart j i b a ys xs hj ej e e5 e1
            · subst hz
              exact absurd ej (r.nob j ys)
          exact ⟨b, us, rfl, k1, by rw [upd_ne hb]; exact k2, k3, DpAll.up s1 _ _ k4⟩
        cases z with
        | d x => exact Dp.up s1 _ _ h5
        | l ys => exact key ys h5 (.inl rfl)
        | b ys => exact key ys h5 (.inr rfl)
        | h => exact h5
    · by_cases hj : j = i
      · subst hj
        rw [List.getElem?_set_self hi] at e2
        cases e2
      · rw [List.getElem?_set_ne (Ne.symm hj)] at e2
        exact r.own j ys b e2 e3
    · by_cases hj : j = i
      · subst hj
        rw [List.getElem?_set_self hi] at ej
        cases ej
      · rw [List.getElem?_set_ne (Ne.symm hj)] at ej
        exact r.nob j ys ej
    · by_cases hj : j = i
      · subst hj
        rw [List.getElem?_set_self hi] at e1
        cases e1
      · by_cases hk : k = i
        · subst hk
          rw [List.getElem?_set_self hi] at e2
          cases e2
        · rw [List.getElem?_set_ne (Ne.symm hj)] at e1
          rw [List.getElem?_set_ne (Ne.symm hk)] at e2
          exact r.apart j k p q xs ys ne e1 e2 e3 e4
    · have hne : x ≠ a := fun z => nf (by rw [← z]; exact hx)
      rw [upd_ne hne]
      exact r.fd x hx
  · exact ⟨D, r, fun _ _ h => h⟩
/-- the own list at a slot is written -/
theorem Rep.mut (r : Rep P σ H D ρ g) {i : Nat} {a : Addr} {xs ys : List PyData} {us : List V} (e : ρ[i]? = some (some (.l xs))) (es : σ[i]? = some (some (.ref a))) (h : DpAll P.K D us ys) :
    Rep P σ (upd H a (.lst us)) D (ρ.set i (some (.l ys))) g := by
  have hi : i < ρ.length := (List.getElem?_eq_some_iff.mp e).1
  have h0 : P.H0 a = none := r.own i xs a e es
  obtain ⟨v, e1, a', vs, q, h1, h2, nf, h3⟩ := r.slot i _ e
  rw [es] at e1
  cases e1
  cases q
  have nd : ∀ b o, D b = some o → b ≠ a := fun b o hb z => by rw [z, h2] at hb; cases hb
  refine ⟨⟨fun b o nb hb => ?_, fun b hb => ?_, r.grow.dk, r.grow.dn⟩, fun b o hb => ?_, r.f0, by simpa using r.len, fun j z ej => ?_, fun j ys b e2 e3 => ?_, fun j ys ej => ?_, fun j k p q xs ys ne e1 e2 e3 e4 => ?_, r.fd, P.rs.loc g H _ (fun b hb => upd_ne (fun z => nf (z ▸ hb))) r.res⟩
  · rw [upd_ne (fun z => by rw [z, h0] at hb; cases hb)]
    exact r.grow.keep b o nb hb
  · by_cases z : b = a
    · subst z; rw [upd_same]; exact fun z => nomatch z
    · rw [upd_ne z]; exact r.grow.th b hb
  · rw [upd_ne (nd b o hb)]
    exact r.sub b o hb
  · by_cases hj : j = i
    · subst hj
      rw [List.getElem?_set_self hi] at ej
      cases ej
      exact ⟨_, es, a, us, rfl, upd_same, h2, nf, h⟩
    · rw [List.getElem?_set_ne (Ne.symm hj)] at ej
      obtain ⟨w, e5, h5⟩ := r.slot j z ej
      refine ⟨w, e5, ?_⟩
      have key : ∀ zs, LstAt P.K P.rs H D w zs → (z = .l zs ∨ z = .b zs) → LstAt P.K P.rs (upd H a (.lst us)) D w zs := fun zs hl hz => by
        obtain ⟨b, ws, rfl, k1, k2, k3, k4⟩ := hl
        have hb : b ≠ a := by
          rcases hz with hz | hz
          · subst hz
            exact r.apart j i b a zs xs hj ej e e5 es
          · subst hz
            exact absurd ej (r.nob j zs)
        exact ⟨b, ws, rfl, by rw [upd_ne hb]; exact k1, k2, k3, k4⟩
      cases z with
      | d x => exact h5
      | l zs => exact key zs h5 (.inl rfl)
      | b zs => exact key zs h5 (.inr rfl)
      | h => exact h5
  · by_cases hj : j = i
    · subst hj
      rw [es] at e3
      cases e3
      exact h0
    · rw [List.getElem?_set_ne (Ne.symm hj)] at e2
      exact r.own j ys b e2 e3
  · by_cases hj : j = i
    · subst hj
      rw [List.getElem?_set_self hi] at ej
      cases ej
    · rw [List.getElem?_set_ne (Ne.symm hj)] at ej
      exact r.nob j ys ej
  · by_cases hj : j = i
    · subst hj
      have hk : k ≠ j := Ne.symm ne
      rw [List.getElem?_set_ne (Ne.symm hk)] at e2
      exact r.apart j k p q _ ys ne e e2 e3 e4
    · by_cases hk : k = i
      · subst hk
        rw [List.getElem?_set_ne (Ne.symm hj)] at e1
        exact r.apart j k p q xs _ ne e1 e e3 e4
      · rw [List.getElem?_set_ne (Ne.symm hj)] at e1
        rw [List.getElem?_set_ne (Ne.symm hk)] at e2
        exact r.apart j k p q xs ys ne e1 e2 e3 e4

/-! ### statements -/
inductive SOut (γ : Type) where
  | next (ρ : Env) (g : γ) | ret (y : SV) (g : γ) | brk (ρ : Env) (g : γ) | cont (ρ : Env) (g : γ) | exc (C : Addr) (fs : List (Str × PyData)) (ρ : Env) (g : γ) | stuck
abbrev SFn (γ : Type) := Env → γ → SOut γ
def RetQ (P : Pm γ) (y : SV) (g' : γ) (R : VK) : Prop := ∀ v H' D', Grow P.rs.fp P.H0 P.D0 H' D' → Sub D' H' → (∀ a, P.rs.fp a → D' a = none) → P.rs.R g' H' → VR P.K P.rs P.H0 H' D' v y → R v H'
def ExcS (P : Pm γ) (D : Hp) (C : Addr) (fs : List (Str × PyData)) (ρ' : Env) (g' : γ) : Prop :=
  ∀ σ' d vfs H' D', Rep P σ' H' D' ρ' g' → Sub D D' → H' d = some (.xd vfs) → FR P.K D' vfs fs → P.W (.ref C) (some d) σ' H'
def NxtQ (P : Pm γ) (D : Hp) (ρ' : Env) (g' : γ) (R : L2.St → Hp → Prop) : Prop := ∀ σ' H' D', Rep P σ' H' D' ρ' g' → Sub D D' → R σ' H'
def ContS (P : Pm γ) (D : Hp) (o : SOut γ) (E : Ends) : Prop :=
  match o with
  | .next ρ' g' => NxtQ P D ρ' g' E.nx
  | .ret y g' => RetQ P y g' E.rt
  | .brk ρ' g' => NxtQ P D ρ' g' E.bk
  | .cont ρ' g' => NxtQ P D ρ' g' E.ct
  | .exc C fs ρ' g' => ExcS P D C fs ρ' g'
  | .stuck => False
def tS (P : Pm γ) (ψ : SFn γ) : TS := fun E σ H => ∃ D ρ g, Rep P σ H D ρ g ∧ ContS P D (ψ ρ g) E
abbrev DS (X : Cx) (P : Pm γ) (st : Stmt) (ψ : SFn γ) : Prop := PS X st (tS P ψ)
abbrev DSs (X : Cx) (P : Pm γ) (st : List Stmt) (ψ : SFn γ) : Prop := PSs X st (tS P ψ)
theorem PS.imp {st : Stmt} {t t' : TS} (h : PS X st t) (i : ∀ E σ H, t' E σ H → t E σ H) : PS X st t' := ⟨fun pins s σ H E I q => h.run pins s σ H E I (i E σ H q)⟩
theorem PSs.imp {st : List Stmt} {t t' : TS} (h : PSs X st t) (i : ∀ E σ H, t' E σ H → t E σ H) : PSs X st t' := ⟨fun pins s σ H E I q => h.run pins s σ H E I (i E σ H q)⟩
theorem Sub.trans {D D1 D2 : Hp} (a : Sub D D1) (b : Sub D1 D2) : Sub D D2 := fun x o h => b x o (a x o h)
theorem Sub.refl (D : Hp) : Sub D D := fun _ _ h => h
theorem ContS.back {o : SOut γ} {E : Ends} (s : Sub D D1) (h : ContS P D o E) : ContS P D1 o E := by
  cases o with
  | next ρ' g' => exact fun σ' H' D' r s' => h σ' H' D' r (s.trans s')
  | ret y g' => exact h
  | brk ρ' g' => exact fun σ' H' D' r s' => h σ' H' D' r (s.trans s')
  | cont ρ' g' => exact fun σ' H' D' r s' => h σ' H' D' r (s.trans s')
  | exc C fs ρ' g' => exact fun σ' d vfs H' D' r s' => h σ' d vfs H' D' r (s.trans s')
  | stuck => exact h
def Out.bindS (o : Out γ) (ρ : Env) (k : SV → γ → SOut γ) : SOut γ := match o with
  | .ok y g => k y g
  | .exc C fs g => .exc C fs ρ g
  | .stuck => .stuck
def OutA.bindS (o : OutA γ) (ρ : Env) (k : List SV → γ → SOut γ) : SOut γ := match o with
  | .ok y g => k y g
  | .exc C fs g => .exc C fs ρ g
  | .stuck => .stuck
theorem tD_bindS {o : SV → γ → SOut γ} {E : Ends} (r : Rep P σ H D ρ g) (c : ContS P D ((φ ρ g).bindS ρ o) E) {R : VK}
    (k : ∀ y g1 v H1 D1, φ ρ g = .ok y g1 → Rep P σ H1 D1 ρ g1 → Grow P.rs.fp H D H1 D1 → VR P.K P.rs H H1 D1 v y → ContS P D1 (o y g1) E → R v H1) : tD P φ σ H R := by
  refine ⟨D, ρ, g, r, ?_⟩
  cases e : φ ρ g with
  | ok y g1 =>
    rw [e] at c
    exact fun v H1 D1 r1 gr vr => k y g1 v H1 D1 e r1 gr vr (ContS.back gr.dk c)
  | exc C fs g1 =>
    rw [e] at c
    exact fun d vfs H' D' r' gr h1 h2 => c σ d vfs H' D' r' gr.dk h1 h2
  | stuck =>
    rw [e] at c
    exact c
/-- a test -/
def Out.bindT (o : Out γ) (ρ : Env) (k : Bool → γ → SOut γ) : SOut γ := match o with
  | .ok (.d (.bool b)) g => k b g
  | .exc C fs g => .exc C fs ρ g
  | _ => .stuck
theorem tDT_bindS {o : Bool → γ → SOut γ} {E : Ends} (r : Rep P σ H D ρ g) (c : ContS P D ((φ ρ g).bindT ρ o) E) {R : Bool → Hp → Prop}
    (k : ∀ b g1 H1 D1, φ ρ g = .ok (.d (.bool b)) g1 → Rep P σ H1 D1 ρ g1 → Grow P.rs.fp H D H1 D1 → ContS P D1 (o b g1) E → R b H1) : tDT P φ σ H R := by
  refine ⟨D, ρ, g, r, ?_⟩
  unfold Out.bindT at c
  unfold ContT
  split at c
  · rename_i b g1 e
    try rw [e]
    exact fun H1 D1 r1 gr => k b g1 H1 D1 e r1 gr (ContS.back gr.dk c)
  · rename_i C fs g1 e
    try rw [e]
    exact fun d vfs H' D' r' gr h1 h2 => c σ d vfs H' D' r' gr.dk h1 h2
  · exact c.elim

def sNil : SFn γ := fun ρ g => .next ρ g
def sSeq (ψ1 ψ2 : SFn γ) : SFn γ := fun ρ g => match ψ1 ρ g with
  | .next ρ' g' => ψ2 ρ' g'
  | o => o
theorem dsnil : DSs X P [] sNil := PSs.imp pss_nil fun E σ H ⟨D, ρ, g, r, c⟩ => c σ H D r (Sub.refl D)
theorem dsone {st : Stmt} {ψ : SFn γ} (h : DS X P st ψ) : DSs X P [st] ψ := pss_one h
theorem dscons {st : Stmt} {rest : List Stmt} {ψ1 ψ2 : SFn γ} (h : DS X P st ψ1) (t : DSs X P rest ψ2) : DSs X P (st :: rest) (sSeq ψ1 ψ2) := PSs.imp (pss_cons h t) fun E σ H ⟨D, ρ, g, r, c⟩ => by
  refine ⟨D, ρ, g, r, ?_⟩
  unfold sSeq at c
  cases e : ψ1 ρ g with
  | next ρ' g' =>
    rw [e] at c
    exact fun σ' H' D' r' s' => ⟨D', ρ', g', r', ContS.back s' c⟩
  | ret y g' => rw [e] at c; exact c
  | brk ρ' g' => rw [e] at c; exact c
  | cont ρ' g' => rw [e] at c; exact c
  | exc C fs ρ' g' => rw [e] at c; exact c
  | stuck => rw [e] at c; exact c
/-- a list that a name holds is data from here on -/
def sFrz (i : Nat) (ψ : SFn γ) : SFn γ := fun ρ g => ψ (frzAt i ρ) g
theorem dsfrz {st : List Stmt} {ψ : SFn γ} (i : Nat) (h : DSs X P st ψ) : DSs X P st (sFrz i ψ) := PSs.imp h fun E σ H ⟨D, ρ, g, r, c⟩ => by
  obtain ⟨D', r', s⟩ := r.frz i
  exact ⟨D', _, g, r', ContS.back s c⟩
def sAsg (i : Nat) (φ : Fn γ) : SFn γ := fun ρ g => (φ ρ g).bindS ρ fun y g1 => match y with
  | .b _ => .stuck
  | y => if i < ρ.length then .next (ρ.set i (some y)) g1 else .stuck
theorem asg_of {i : Nat} {E : Ends} {σ : L2.St} {H : Hp} (h : tS P (sAsg i φ) E σ H) : tAsg (tD P φ) (gName i) E σ H := by
  obtain ⟨D, ρ, g, r, c⟩ := h
  refine tD_bindS r c fun y g1 v H1 D1 _ r1 gr vr c1 => ?_
  have key : (∀ xs, y ≠ .b xs) → ContS P D1 (if i < ρ.length then .next (ρ.set i (some y)) g1 else .stuck) E → E.nx (σ.set i (some v)) H1 := fun hb c2 => by
    by_cases hi : i < ρ.length
    · rw [if_pos hi] at c2
      exact c2 _ H1 D1 (r.store r1 hi vr hb) (Sub.refl _)
    · rw [if_neg hi] at c2
      exact c2.elim
  cases y with
  | d x => exact key (fun _ z => nomatch z) c1
  | l x => exact key (fun _ z => nomatch z) c1
  | b x => exact c1.elim
  | h => exact key (fun _ z => nomatch z) c1
theorem dset (i : Nat) {x : Str} {pos' : Pos} (nd : X.N.Nodup) (he : DE X P e φ) (hi : X.N[i]? = some x := by rfl) (hx : L2.Loc X.env.scope x := by first | exact Or.inl rfl | exact Or.inr rfl)
    (hs : swapsWith e (some (.Name x pos')) pos.line X.env = pure false := by rfl) (hf : X.fn x = true ∨ X.env.scope.names.lookup x = some .local := by first | exact .inl rfl | exact .inr rfl) : DS X P (.Assign [.Name x pos'] e pos) (sAsg i φ) :=
  PS.imp (ps_set nd hi hx he hs hf) fun _ _ _ => asg_of
def sDrop (φ : Fn γ) : SFn γ := fun ρ g => (φ ρ g).bindS ρ fun _ g1 => .next ρ g1
theorem dexpr (he : DE X P e φ) (hs : swapsWith e none pos.line X.env = pure false := by rfl) : DS X P (.Expr e pos) (sDrop φ) := PS.imp (ps_expr he hs) fun E σ H ⟨D, ρ, g, r, c⟩ =>
  tD_bindS r c fun y g1 v H1 D1 _ r1 gr vr c1 => c1 σ H1 D1 r1 (Sub.refl _)
theorem ddoc {x : Str} {j : Nat} {pos' : Pos} : DS X P (.Expr (.Constant (.str x) j pos) pos') sNil := PS.imp ps_doc fun E σ H ⟨D, ρ, g, r, c⟩ => c σ H D r (Sub.refl D)
theorem dpass : DS X P (.Pass pos) sNil := PS.imp ps_pass fun E σ H ⟨D, ρ, g, r, c⟩ => c σ H D r (Sub.refl D)
def sBrk : SFn γ := fun ρ g => .brk ρ g
def sCnt : SFn γ := fun ρ g => .cont ρ g
theorem dbreak : DS X P (.Break pos) sBrk := PS.imp ps_break fun E σ H ⟨D, ρ, g, r, c⟩ => c σ H D r (Sub.refl D)
theorem dcontinue : DS X P (.Continue pos) sCnt := PS.imp ps_continue fun E σ H ⟨D, ρ, g, r, c⟩ => c σ H D r (Sub.refl D)
/-- what is handed back: a list of the def's own is the caller's -/
def SV.out : SV → SV
  | .b xs => .l xs
  | y => y
def sRet (φ : Fn γ) : SFn γ := fun ρ g => (φ ρ g).bindS ρ fun y g1 => match y with
  | .b _ => .stuck
  | y => .ret y g1
theorem dret (he : DE X P e φ) : DS X P (.Return (some e) pos) (sRet φ) := PS.imp (ps_ret he) fun E σ H ⟨D, ρ, g, r, c⟩ =>
  tD_bindS r c fun y g1 v H1 D1 _ r1 gr vr c1 => by
    have key : (∀ xs, y ≠ .b xs) → RetQ P y g1 E.rt → E.rt v H1 := fun hb c2 => c2 v H1 D1 r1.grow r1.sub r1.fd r1.res (vr.back r.grow)
    cases y with
    | d x => exact key (fun _ z => nomatch z) c1
    | l x => exact key (fun _ z => nomatch z) c1
    | b x => exact c1.elim
    | h => exact key (fun _ z => nomatch z) c1
/-- return of a name that holds an own list -/
def sRetV (i : Nat) : SFn γ := fun ρ g => match ρ[i]? with
  | some (some (.b _)) => .stuck
  | some (some y) => .ret y g
  | _ => .stuck
theorem dretv (i : Nat) (he : PE X e (tVar i)) : DS X P (.Return (some e) pos) (sRetV i) := PS.imp (ps_ret he) fun E σ H ⟨D, ρ, g, r, c⟩ => by
  unfold sRetV at c
  split at c
  · exact c.elim
  · rename_i y hb e
    obtain ⟨v, e1, h⟩ := r.slot i _ e
    refine ⟨v, e1, c v H D r.grow r.sub r.fd r.res ?_⟩
    cases y with
    | d x => exact h
    | l xs => exact ⟨h, fun a ea => r.own i xs a e (by rw [e1, ea])⟩
    | b xs => exact absurd rfl (hb xs)
    | h => exact h
  · exact c.elim
theorem dretn : DS X P (.Return none pos) (fun _ g => .ret (.d .none) g) := PS.imp ps_retN fun E σ H ⟨D, ρ, g, r, c⟩ => c .non H D r.grow r.sub r.fd r.res Dp.non
def sIf (τ : Fn γ) (ψ1 ψ2 : SFn γ) : SFn γ := fun ρ g => (τ ρ g).bindT ρ fun b g1 => if b = true then ψ1 ρ g1 else ψ2 ρ g1
theorem dif_ {A B : List Stmt} {ψ1 ψ2 : SFn γ} (hc : DT X P c τ) (ha : DSs X P A ψ1) (hb : DSs X P B ψ2) : DS X P (.If c A B pos) (sIf τ ψ1 ψ2) := PS.imp (ps_if hc ha hb) fun E σ H ⟨D, ρ, g, r, c⟩ =>
  tDT_bindS r c fun b g1 H1 D1 _ r1 gr c1 => by
    cases b with
    | true => exact ⟨D1, ρ, g1, r1, c1⟩
    | false => exact ⟨D1, ρ, g1, r1, c1⟩
end
end Dn

set_option Elab.async false
set_option linter.all false
set_option autoImplicit false
set_option maxRecDepth 100000
set_option maxHeartbeats 4000000
namespace Dn
open PySem PySem.Spec PyProof.Rows L2
section
variable {γ : Type} {X : Cx} {P : Pm γ} {σ : L2.St} {H D H1 D1 H2 D2 H' D' : Hp} {ρ : Env} {g g1 g2 : γ} {e a b c : Expr} {φ ψ τ : Fn γ} {Φ Ψ : FnA γ} {t : TE} {pos : Pos} {Q : VK}

/-! ### tests -/
def Out.bindB (o : Out γ) (k : Bool → γ → Out γ) : Out γ := match o with
  | .ok (.d (.bool b)) g => k b g
  | .exc C fs g => .exc C fs g
  | _ => .stuck
theorem ContT.back {o : Out γ} {Q : Bool → Hp → Prop} (gr : Grow P.rs.fp H D H1 D1) (h : ContT P σ H D ρ o Q) : ContT P σ H1 D1 ρ o Q := by
  unfold ContT at *
  split at h
  · exact fun H' D' r g2 => h H' D' r (gr.trans g2)
  · exact ExcQ.back gr h
  · exact h.elim
/-- a test, then another one -/
theorem tDT_bindT {o : Bool → γ → Out γ} {Q : Bool → Hp → Prop} (r : Rep P σ H D ρ g) (c : ContT P σ H D ρ ((φ ρ g).bindB o) Q) {R : Bool → Hp → Prop}
    (k : ∀ b g1 H1 D1, φ ρ g = .ok (.d (.bool b)) g1 → Rep P σ H1 D1 ρ g1 → Grow P.rs.fp H D H1 D1 → ContT P σ H1 D1 ρ (o b g1) Q → R b H1) : tDT P φ σ H R := by
  refine ⟨D, ρ, g, r, ?_⟩
  unfold Out.bindB at c
  split at c
  · rename_i b g1 e
    rw [e]
    exact fun H1 D1 r1 gr => k b g1 H1 D1 e r1 gr (ContT.back gr c)
  · rename_i C fs g1 e
    rw [e]
    exact c
  · exact c.elim
/-- a test, then a value -/
theorem tDT_bindV {o : Bool → γ → Out γ} (r : Rep P σ H D ρ g) (c : Cont P σ H D ρ ((φ ρ g).bindB o) Q) {R : Bool → Hp → Prop}
    (k : ∀ b g1 H1 D1, φ ρ g = .ok (.d (.bool b)) g1 → Rep P σ H1 D1 ρ g1 → Grow P.rs.fp H D H1 D1 → Cont P σ H1 D1 ρ (o b g1) Q → R b H1) : tDT P φ σ H R := by
  refine ⟨D, ρ, g, r, ?_⟩
  unfold Out.bindB at c
  split at c
  · rename_i b g1 e
    rw [e]
    exact fun H1 D1 r1 gr => k b g1 H1 D1 e r1 gr (Cont.back gr c)
  · rename_i C fs g1 e
    rw [e]
    exact c
  · exact c.elim
/-- a value that is a bool, then a value -/
theorem tD_bindB {o : Bool → γ → Out γ} (r : Rep P σ H D ρ g) (c : Cont P σ H D ρ ((φ ρ g).bindB o) Q) {R : VK}
    (k : ∀ b g1 H1 D1, φ ρ g = .ok (.d (.bool b)) g1 → Rep P σ H1 D1 ρ g1 → Grow P.rs.fp H D H1 D1 → Cont P σ H1 D1 ρ (o b g1) Q → R (.bl b) H1) : tD P φ σ H R := by
  refine ⟨D, ρ, g, r, ?_⟩
  unfold Out.bindB at c
  split at c
  · rename_i b g1 e
    rw [e]
    exact fun v H1 D1 r1 gr vr => by
      cases vr
      exact k b g1 H1 D1 e r1 gr (Cont.back gr c)
  · rename_i C fs g1 e
    rw [e]
    exact c
  · exact c.elim
/-- a value as a test -/
theorem tDT_tB {Q : Bool → Hp → Prop} {σ : L2.St} {H : Hp} (h : tDT P φ σ H Q) : tD P φ σ H fun x H1 => ∃ c, x = .bl c ∧ Q c H1 := by
  obtain ⟨D, ρ, g, r, c⟩ := h
  refine ⟨D, ρ, g, r, ?_⟩
  unfold ContT at c
  split at c
  · rename_i b g1 e
    rw [e]
    exact fun v H1 D1 r1 gr vr => by
      cases vr
      exact ⟨b, rfl, c H1 D1 r1 gr⟩
  · rename_i C fs g1 e
    rw [e]
    exact c
  · exact c.elim
theorem dtval (h : DE X P e φ) (he : ∀ whole, isTrue e X.env whole = (do let v ← whole; standAt e.pos; holding [v] (truthy v)) := by intro _; rfl) : DT X P e φ := PT.imp (pt_val h he) fun σ H Q q => tDT_tB q
theorem tTest_of {F : SV → SV → Option SV} {r : R2} (ok : OpOk P.K r F) {Q : Bool → Hp → Prop} {σ : L2.St} {H : Hp} (h : tDT P (fOp F φ ψ) σ H Q) : tTest (tOp r (tD P φ) (tD P ψ)) σ H Q := by
  have q := tDT_tB h
  exact tOp_of ok q
theorem dtcmp {op : CmpOp} {r : R2} {F : SV → SV → Option SV} (ho : OpR X (compareOp op) r) (ok : OpOk P.K r F) (ha : DE X P a φ) (hb : DE X P b ψ) (hm : behindInMarks op b = false := by first | rfl | exact nomark _) : DT X P (.Compare a [op] [b] pos) (fOp F φ ψ) :=
  PT.imp (pt_cmpR ho ha hb hm) fun σ H Q q => tTest_of ok q
def fAnd (φ ψ : Fn γ) : Fn γ := fun ρ g => (φ ρ g).bindB fun b g1 => if b = true then ψ ρ g1 else .ok (.d (.bool false)) g1
def fOr (φ ψ : Fn γ) : Fn γ := fun ρ g => (φ ρ g).bindB fun b g1 => if b = true then .ok (.d (.bool true)) g1 else ψ ρ g1
def fNot (φ : Fn γ) : Fn γ := fun ρ g => (φ ρ g).bindB fun b g1 => .ok (.d (.bool (!b))) g1
def fIf (τ φ ψ : Fn γ) : Fn γ := fun ρ g => (τ ρ g).bindB fun b g1 => if b = true then φ ρ g1 else ψ ρ g1
abbrev DW (X : Cx) (P : Pm γ) (e : Expr) (φ : Fn γ) : Prop := PW X e (tDT P φ)
theorem dwand1 (h : DT X P a φ) : DW X P (.BoolOp .And [a] pos) φ := pw_and1 h
theorem dwor1 (h : DT X P a φ) : DW X P (.BoolOp .Or [a] pos) φ := pw_or1 h
theorem PW.imp {t t' : TT} (h : PW X e t) (i : ∀ σ H Q, t' σ H Q → t σ H Q) : PW X e t' := ⟨fun w pins s σ H Q I q => h.run w pins s σ H Q I (i σ H Q q)⟩
theorem tAnd_of {Q : Bool → Hp → Prop} {σ : L2.St} {H : Hp} (h : tDT P (fAnd φ ψ) σ H Q) : tAnd (tDT P φ) (tDT P ψ) σ H Q := by
  obtain ⟨D, ρ, g, r, c⟩ := h
  refine tDT_bindT r c fun b g1 H1 D1 _ r1 gr c1 => ?_
  cases b with
  | true => exact ⟨D1, ρ, g1, r1, c1⟩
  | false => exact c1 H1 D1 r1 .refl
theorem tOr_of {Q : Bool → Hp → Prop} {σ : L2.St} {H : Hp} (h : tDT P (fOr φ ψ) σ H Q) : tOr (tDT P φ) (tDT P ψ) σ H Q := by
  obtain ⟨D, ρ, g, r, c⟩ := h
  refine tDT_bindT r c fun b g1 H1 D1 _ r1 gr c1 => ?_
  cases b with
  | true => exact c1 H1 D1 r1 .refl
  | false => exact ⟨D1, ρ, g1, r1, c1⟩
theorem dwand {rest : List Expr} (ha : DT X P a φ) (hb : DW X P (.BoolOp .And (b :: rest) pos) ψ) : DW X P (.BoolOp .And (a :: b :: rest) pos) (fAnd φ ψ) := PW.imp (pw_and ha hb) fun _ _ _ => tAnd_of
theorem dwor {rest : List Expr} (ha : DT X P a φ) (hb : DW X P (.BoolOp .Or (b :: rest) pos) ψ) : DW X P (.BoolOp .Or (a :: b :: rest) pos) (fOr φ ψ) := PW.imp (pw_or ha hb) fun _ _ _ => tOr_of
theorem dtw (h : DW X P e φ) : DT X P e φ := h.pt
theorem dtnot (h : DT X P a φ) : DT X P (.UnaryOp .Not a pos) (fNot φ) := PT.imp (pt_not h) fun σ H Q ⟨D, ρ, g, r, c⟩ => by
  refine tDT_bindT r c fun b g1 H1 D1 _ r1 gr c1 => ?_
  exact c1 H1 D1 r1 .refl
theorem done1 {op : BoolOp} (h : DE X P a φ) : DE X P (.BoolOp op [a] pos) φ := pe_one h
theorem dand {rest : List Expr} (ha : DE X P a φ) (hb : DE X P (.BoolOp .And (b :: rest) pos) ψ) : DE X P (.BoolOp .And (a :: b :: rest) pos) (fAnd φ ψ) := PE.imp (pe_and ha hb) fun σ H Q ⟨D, ρ, g, r, c⟩ => by
  refine tD_bindB r c fun b g1 H1 D1 _ r1 gr c1 => ⟨b, rfl, ?_⟩
  cases b with
  | true => exact ⟨D1, ρ, g1, r1, c1⟩
  | false => exact c1 _ H1 D1 r1 .refl (Dp.bl _)
theorem dor {rest : List Expr} (ha : DE X P a φ) (hb : DE X P (.BoolOp .Or (b :: rest) pos) ψ) : DE X P (.BoolOp .Or (a :: b :: rest) pos) (fOr φ ψ) := PE.imp (pe_or ha hb) fun σ H Q ⟨D, ρ, g, r, c⟩ => by
  refine tD_bindB r c fun b g1 H1 D1 _ r1 gr c1 => ⟨b, rfl, ?_⟩
  cases b with
  | true => exact c1 _ H1 D1 r1 .refl (Dp.bl _)
  | false => exact ⟨D1, ρ, g1, r1, c1⟩
theorem dnot (h : DE X P a φ) : DE X P (.UnaryOp .Not a pos) (fNot φ) := PE.imp (pe_not h) fun σ H Q ⟨D, ρ, g, r, c⟩ => by
  refine tD_bindB r c fun b g1 H1 D1 _ r1 gr c1 => ⟨b, rfl, ?_⟩
  exact c1 _ H1 D1 r1 .refl (Dp.bl _)
theorem difx (hc : DT X P c τ) (ha : DE X P a φ) (hb : DE X P b ψ) : DE X P (.IfExp c a b pos) (fIf τ φ ψ) := PE.imp (pe_ifExp hc ha hb) fun σ H Q ⟨D, ρ, g, r, c⟩ => by
  refine tDT_bindV r c fun b g1 H1 D1 _ r1 gr c1 => ?_
  cases b with
  | true => exact ⟨D1, ρ, g1, r1, c1⟩
  | false => exact ⟨D1, ρ, g1, r1, c1⟩
/-- is None -/
def kNone : SV → Bool
  | .d .none => true
  | _ => false
def fIsN (φ : Fn γ) : Fn γ := fun ρ g => (φ ρ g).bind fun y g1 => .ok (.d (.bool (kNone y))) g1
def fNotN (φ : Fn γ) : Fn γ := fun ρ g => (φ ρ g).bind fun y g1 => .ok (.d (.bool (!kNone y))) g1
theorem ar_none {K : PySem.W.Frag} {rs : Rs γ} {v : V} {y : SV} (h : AR K rs H D v y) : decide (v = .non) = kNone y := by
  have key : ∀ xs, LstAt K rs H D v xs → decide (v = .non) = false := fun xs ⟨a, vs, e, _⟩ => by subst e; rfl
  cases y with
  | d x =>
    cases x with
    | none => cases h; rfl
    | bool b => cases h; rfl
    | int b => cases h; rfl
    | str b => cases h; rfl
    | list b => cases h; rfl
    | tuple b => cases h; rfl
    | dict b => cases h
  | l xs => exact key xs h
  | b xs => exact key xs h
  | h => 
    have e : v = .ref rs.top := h
    subst e; rfl
theorem disn {j : Nat} {pos' : Pos} (ha : DE X P a φ) : DE X P (.Compare a [.Is] [.Constant .none j pos'] pos) (fIsN φ) := PE.imp (pe_cmp (pc_isN ha)) fun σ H Q ⟨D, ρ, g, r, c⟩ =>
  tD_bind r c fun y g1 v H1 D1 _ r1 gr vr c1 => by rw [ar_none vr.ar]; exact c1 _ H1 D1 r1 .refl (Dp.bl _)
theorem disnotn {j : Nat} {pos' : Pos} (ha : DE X P a φ) : DE X P (.Compare a [.IsNot] [.Constant .none j pos'] pos) (fNotN φ) := PE.imp (pe_cmp (pc_notN ha)) fun σ H Q ⟨D, ρ, g, r, c⟩ =>
  tD_bind r c fun y g1 v H1 D1 _ r1 gr vr c1 => by rw [ar_none vr.ar]; exact c1 _ H1 D1 r1 .refl (Dp.bl _)
theorem dtcmpv {op : CmpOp} {t : TE} (h : PC X op a b t) (i : ∀ σ H Q, tD P φ σ H Q → t σ H Q) (h1 : behindInMarks op b = false := by first | exact nobehind _ (by decide) (by decide) | rfl) : DT X P (.Compare a [op] [b] pos) φ :=
  PT.imp (pt_cmp h h1) fun σ H Q q => i _ _ _ (tDT_tB q)
theorem dtisn {j : Nat} {pos' : Pos} (ha : DE X P a φ) : DT X P (.Compare a [.Is] [.Constant .none j pos'] pos) (fIsN φ) := dtcmpv (pc_isN ha) fun σ H Q ⟨D, ρ, g, r, c⟩ =>
  tD_bind r c fun y g1 v H1 D1 _ r1 gr vr c1 => by rw [ar_none vr.ar]; exact c1 _ H1 D1 r1 .refl (Dp.bl _)
theorem dtisnotn {j : Nat} {pos' : Pos} (ha : DE X P a φ) : DT X P (.Compare a [.IsNot] [.Constant .none j pos'] pos) (fNotN φ) := dtcmpv (pc_notN ha) fun σ H Q ⟨D, ρ, g, r, c⟩ =>
  tD_bind r c fun y g1 v H1 D1 _ r1 gr vr c1 => by rw [ar_none vr.ar]; exact c1 _ H1 D1 r1 .refl (Dp.bl _)

/-! ### a new list as data; displays -/
def fFrz (φ : Fn γ) : Fn γ := fun ρ g => (φ ρ g).bind fun y g1 => match y with
  | .l xs => .ok (.d (.list xs)) g1
  | .d x => .ok (.d x) g1
  | _ => .stuck
theorem Rep.frzNew (r0 : Rep P σ H D ρ g) (r : Rep P σ H1 D1 ρ g1) {v : V} {xs : List PyData} (h : VR P.K P.rs H H1 D1 v (.l xs)) : ∃ D2, Rep P σ H1 D2 ρ g1 ∧ Sub D1 D2 ∧ (∀ x, H x ≠ none → D1 x = none → D2 x = none) ∧ Dp P.K D2 v (.list xs) := by
  obtain ⟨⟨a, vs, rfl, h1, h2, nf, h3⟩, hn⟩ := h
  have ha : H a = none := hn a rfl
  have h0 : P.H0 a = none := by
    cases q : P.H0 a with
    | none => rfl
    | some o => exact absurd ha (r0.grow.th a (ne_none q))
  obtain ⟨s1, s2⟩ := LG.frz (o := .lst vs) r.sub h1 h2
  refine ⟨upd D1 a (.lst vs), ⟨⟨r.grow.keep, r.grow.th, fun x o hx => s1 _ _ (r.grow.dk x o hx), fun x hx hn => ?_⟩, s2, r.f0, r.len, fun j z ej => ?_, r.own, r.nob, r.apart, fun x hx => ?_, r.res⟩, s1, fun x hx hd => ?_, Dp.lst (SqL.of upd_same) (DpAll.up s1 _ _ h3)⟩
  · have hne : x ≠ a := fun z => hx (by rw [z]; exact h0)
    rw [upd_ne hne]
    exact r.grow.dn x hx hn
  · obtain ⟨w, e5, h5⟩ := r.slot j z ej
    refine ⟨w, e5, ?_⟩
    have key : ∀ ys, LstAt P.K P.rs H1 D1 w ys → (z = .l ys ∨ z = .b ys) → LstAt P.K P.rs H1 (upd D1 a (.lst vs)) w ys := fun ys hl hz => by
      obtain ⟨b, us, rfl, k1, k2, k3, k4⟩ := hl
      have hb : b ≠ a := by
        obtain ⟨w', e6, h6⟩ := r0.slot j z ej
        rw [e5] at e6
        cases e6
        intro q
        subst q
        rcases hz with hz | hz
        · subst hz
          obtain ⟨a', ws, q', k5, _⟩ := h6
          cases q'
          rw [ha] at k5
          cases k5
        · subst hz
          exact absurd ej (r0.nob j ys)
      exact ⟨b, us, rfl, k1, by rw [upd_ne hb]; exact k2, k3, DpAll.up s1 _ _ k4⟩
    cases z with
    | d x => exact Dp.up s1 _ _ h5
    | l ys => exact key ys h5 (.inl rfl)
    | b ys => exact key ys h5 (.inr rfl)
    | h => exact h5
  · have hne : x ≠ a := fun z => nf (by rw [← z]; exact hx)
    rw [upd_ne hne]
    exact r.fd x hx
  · have hne : x ≠ a := fun z => hx (by rw [z]; exact ha)
    rw [upd_ne hne]
    exact hd
theorem dfrz (h : DE X P e φ) : DE X P e (fFrz φ) := PE.imp h fun σ H Q ⟨D, ρ, g, r, c⟩ => by
  refine ⟨D, ρ, g, r, ?_⟩
  unfold fFrz at c
  cases q : φ ρ g with
  | ok y g1 =>
    rw [q] at c
    intro v H1 D1 r1 gr vr
    cases y with
    | d x => exact c v H1 D1 r1 gr vr
    | l xs =>
      obtain ⟨D2, r2, s, dn, dp⟩ := r.frzNew r1 vr
      exact c v H1 D2 r2 ⟨gr.keep, gr.th, fun x o hx => s _ _ (gr.dk x o hx), fun x hx hd => dn x hx (gr.dn x hx hd)⟩ dp
    | b xs => exact c.elim
    | h => exact c.elim
  | exc C fs g1 => rw [q] at c; exact c
  | stuck => rw [q] at c; exact c
/-- all are data -/
def allD : List SV → Option (List PyData)
  | [] => some []
  | .d x :: r => (allD r).map (x :: ·)
  | _ :: _ => none
theorem ARs.allD {K : PySem.W.Frag} {rs : Rs γ} : ∀ {vs : List V} {ys : List SV} {ds : List PyData}, ARs K rs H D vs ys → Dn.allD ys = some ds → DpAll K D vs ds
  | _, _, _, .nil, e => by cases e; exact .nil
  | _, .d x :: r, ds, .cons h t, e => by
    cases q : Dn.allD r with
    | none => rw [Dn.allD, q] at e; cases e
    | some ds' =>
      rw [Dn.allD, q] at e
      cases e
      exact .cons h (ARs.allD t q)
  | _, .l _ :: _, _, .cons _ _, e => by cases e
  | _, .b _ :: _, _, .cons _ _, e => by cases e
  | _, .h :: _, _, .cons _ _, e => by cases e
theorem ARs.len {K : PySem.W.Frag} {rs : Rs γ} : ∀ {vs : List V} {ys : List SV}, ARs K rs H D vs ys → vs.length = ys.length
  | _, _, .nil => rfl
  | _, _, .cons _ t => by simp [ARs.len t]
theorem allD_len : ∀ {ys : List SV} {ds : List PyData}, allD ys = some ds → ds.length = ys.length
  | [], _, e => by cases e; rfl
  | .d x :: r, ds, e => by
    cases q : Dn.allD r with
    | none => rw [Dn.allD, q] at e; cases e
    | some ds' =>
      rw [Dn.allD, q] at e
      cases e
      simp [allD_len q]
  | .l _ :: _, _, e => by cases e
  | .b _ :: _, _, e => by cases e
  | .h :: _, _, e => by cases e
def fTup (Φ : FnA γ) : Fn γ := fun ρ g => (Φ ρ g).bind fun ys g1 => match allD ys with
  | some ds => if ds.length ≤ 1000 then .ok (.d (.tuple ds)) g1 else .stuck
  | none => .stuck
def fLst (Φ : FnA γ) : Fn γ := fun ρ g => (Φ ρ g).bind fun ys g1 => match allD ys with
  | some ds => if ds.length ≤ 1000 then .ok (.l ds) g1 else .stuck
  | none => .stuck
theorem Rep.nfp (r : Rep P σ H D ρ g) {a : Addr} (h : H a = none) : ¬ P.rs.fp a := fun z => r.fpH z h
theorem dtup {es : List Expr} {x1 : Nat} (h : DA X P es Φ) : DE X P (.Tuple es x1 pos) (fTup Φ) := PE.imp (pe_tup h) fun σ H Q ⟨D, ρ, g, r, c⟩ =>
  tDA_bind r c fun ys g1 vs H1 D1 _ r1 gr vr c1 => by
    cases q : allD ys with
    | none => simp only [q] at c1; exact c1.elim
    | some ds =>
      simp only [q] at c1
      by_cases hl : ds.length ≤ 1000
      · rw [if_pos hl] at c1
        have hv : vs.length = ds.length := by rw [vr.len, allD_len q]
        refine ⟨by rw [hv]; exact Nat.le_trans hl (by decide), fun p hp => ?_⟩
        have l := LG.newD (o := .tup vs) r1.sub hp
        exact c1 _ _ _ (r1.lg l) l.grow (Dp.tup (SqT.of upd_same) (DpAll.up l.dk _ _ (vr.allD q)))
      · rw [if_neg hl] at c1; exact c1.elim
theorem dlst {es : List Expr} (h : DA X P es Φ) : DE X P (.List es pos) (fLst Φ) := PE.imp (pe_lst h) fun σ H Q ⟨D, ρ, g, r, c⟩ =>
  tDA_bind r c fun ys g1 vs H1 D1 _ r1 gr vr c1 => by
    cases q : allD ys with
    | none => simp only [q] at c1; exact c1.elim
    | some ds =>
      simp only [q] at c1
      by_cases hl : ds.length ≤ 1000
      · rw [if_pos hl] at c1
        have hv : vs.length = ds.length := by rw [vr.len, allD_len q]
        refine ⟨by rw [hv]; exact Nat.le_trans hl (by decide), fun p hp => ?_⟩
        have l := LG.new (o := .lst vs) r1.sub hp
        have hd : D1 p = none := by
          cases e : D1 p with
          | none => rfl
          | some u => rw [r1.sub p u e] at hp; cases hp
        exact c1 _ _ _ (r1.lg l) l.grow ⟨⟨p, vs, rfl, upd_same, hd, r1.nfp hp, vr.allD q⟩, fun a e => by cases e; exact hp⟩
      · rw [if_neg hl] at c1; exact c1.elim

/-! ### what is walked -/
structure ItIs (K : PySem.W.Frag) (J : It) (D0 : Hp) (ys : List PyData) : Prop where
  go : ∀ (i : Nat) (y : PyData) (H D : Hp), ys[i]? = some y → Sub D0 D → Sub D H → J.go i H ∧ ∀ x H', J.yld i H x H' → ∃ D', LG H D H' D' ∧ Dp K D' x y
  stop : ∀ (i : Nat) (H D : Hp), ys.length ≤ i → Sub D0 D → Sub D H → J.stop i H
inductive OutI (γ : Type) where
  | ok (ys : List PyData) (g : γ) | exc (C : Addr) (fs : List (Str × PyData)) (g : γ) | stuck
abbrev FnI (γ : Type) := Env → γ → OutI γ
def ContI (P : Pm γ) (σ : L2.St) (H D : Hp) (ρ : Env) (o : OutI γ) (R : It → Hp → Prop) : Prop := match o with
  | .ok ys g' => ∀ J H' D', Rep P σ H' D' ρ g' → Grow P.rs.fp H D H' D' → ItIs P.K J D' ys → R J H'
  | .exc C fs g' => ExcQ P σ H D ρ C fs g'
  | .stuck => False
def tDI (P : Pm γ) (Ι : FnI γ) : TI := fun σ H R => ∃ D ρ g, Rep P σ H D ρ g ∧ ContI P σ H D ρ (Ι ρ g) R
abbrev DI (X : Cx) (P : Pm γ) (tg iter : Expr) (Ι : FnI γ) : Prop := PI X tg iter (tDI P Ι)
def Out.bindI (o : Out γ) (k : SV → γ → OutI γ) : OutI γ := match o with
  | .ok y g => k y g
  | .exc C fs g => .exc C fs g
  | .stuck => .stuck
def OutA.bindI (o : OutA γ) (k : List SV → γ → OutI γ) : OutI γ := match o with
  | .ok y g => k y g
  | .exc C fs g => .exc C fs g
  | .stuck => .stuck
theorem ContI.back {o : OutI γ} {R : It → Hp → Prop} (gr : Grow P.rs.fp H D H1 D1) (h : ContI P σ H D ρ o R) : ContI P σ H1 D1 ρ o R := by
  cases o with
  | ok y g' => exact fun J H' D' r g2 => h J H' D' r (gr.trans g2)
  | exc C fs g' => exact ExcQ.back gr h
  | stuck => exact h
theorem tD_bindI {o : SV → γ → OutI γ} {R' : It → Hp → Prop} (r : Rep P σ H D ρ g) (c : ContI P σ H D ρ ((φ ρ g).bindI o) R') {R : VK}
    (k : ∀ y g1 v H1 D1, φ ρ g = .ok y g1 → Rep P σ H1 D1 ρ g1 → Grow P.rs.fp H D H1 D1 → VR P.K P.rs H H1 D1 v y → ContI P σ H1 D1 ρ (o y g1) R' → R v H1) : tD P φ σ H R := by
  refine ⟨D, ρ, g, r, ?_⟩
  cases e : φ ρ g with
  | ok y g1 =>
    rw [e] at c
    exact fun v H1 D1 r1 gr vr => k y g1 v H1 D1 e r1 gr vr (ContI.back gr c)
  | exc C fs g1 => rw [e] at c; exact c
  | stuck => rw [e] at c; exact c
theorem tDA_bindI {o : List SV → γ → OutI γ} {R' : It → Hp → Prop} (r : Rep P σ H D ρ g) (c : ContI P σ H D ρ ((Φ ρ g).bindI o) R') {R : List V → Hp → Prop}
    (k : ∀ y g1 v H1 D1, Φ ρ g = .ok y g1 → Rep P σ H1 D1 ρ g1 → Grow P.rs.fp H D H1 D1 → ARs P.K P.rs H1 D1 v y → ContI P σ H1 D1 ρ (o y g1) R' → R v H1) : tDA P Φ σ H R := by
  refine ⟨D, ρ, g, r, ?_⟩
  cases e : Φ ρ g with
  | ok y g1 =>
    rw [e] at c
    exact fun v H1 D1 r1 gr vr => k y g1 v H1 D1 e r1 gr vr (ContI.back gr c)
  | exc C fs g1 => rw [e] at c; exact c
  | stuck => rw [e] at c; exact c
theorem itIs_list {K : PySem.W.Frag} {a : Addr} {vs : List V} {ds : List PyData} (h : SqL K D a vs) (hd : DpAll K D vs ds) : ItIs K (Itl K a) D ds := by
  refine ⟨fun i y H D1 e s s' => ?_, fun i H D1 e s s' => ⟨vs, Sub.sl (s.trans s') h, by rw [DpAll.len hd]; exact e⟩⟩
  obtain ⟨v, e1, h1⟩ := DpAll.get hd e
  refine ⟨⟨vs, v, Sub.sl (s.trans s') h, e1⟩, fun x H' q => ?_⟩
  obtain ⟨rfl, q⟩ := q
  have := q vs (Sub.sl (s.trans s') h)
  rw [e1] at this
  cases this
  exact ⟨D1, .refl s', Dp.up s _ _ h1⟩
theorem itIs_tup {K : PySem.W.Frag} {a : Addr} {vs : List V} {ds : List PyData} (h : SqT K D a vs) (hd : DpAll K D vs ds) : ItIs K (Itt K a) D ds := by
  refine ⟨fun i y H D1 e s s' => ?_, fun i H D1 e s s' => ⟨vs, Sub.st (s.trans s') h, by rw [DpAll.len hd]; exact e⟩⟩
  obtain ⟨v, e1, h1⟩ := DpAll.get hd e
  refine ⟨⟨vs, v, Sub.st (s.trans s') h, e1⟩, fun x H' q => ?_⟩
  obtain ⟨rfl, q⟩ := q
  have := q vs (Sub.st (s.trans s') h)
  rw [e1] at this
  cases this
  exact ⟨D1, .refl s', Dp.up s _ _ h1⟩
theorem itIs_range {K : PySem.W.Frag} (lo : Int) (n : Nat) : ItIs K (Itr lo n) D ((List.range n).map fun k => .int (lo + (k : Nat))) := by
  refine ⟨fun i y H D1 e s s' => ?_, fun i H D1 e s s' => by show n ≤ i; simpa using e⟩
  simp only [List.getElem?_map, Option.map_eq_some_iff] at e
  obtain ⟨k, e1, rfl⟩ := e
  have hk : i < n ∧ k = i := by
    have := List.getElem?_eq_some_iff.mp e1
    obtain ⟨h1, h2⟩ := this
    simp at h1 h2
    exact ⟨h1, h2.symm⟩
  obtain ⟨hi, rfl⟩ := hk
  refine ⟨hi, fun x H' q => ?_⟩
  obtain ⟨rfl, rfl⟩ := q
  exact ⟨D1, .refl s', Dp.int _⟩
/-- a list or a tuple, whichever it is -/
def iAny (φ : Fn γ) : FnI γ := fun ρ g => (φ ρ g).bindI fun y g1 => match y with
  | .d (.list xs) => .ok xs g1
  | .d (.tuple xs) => .ok xs g1
  | _ => .stuck
theorem diany {tg l : Expr} (h : DE X P l φ) (hK : X.K = P.K := by rfl) : DI X P tg l (iAny φ) := by
  refine ⟨fun pins s σ H R I hw => ?_⟩
  obtain ⟨D, ρ, g, r, c⟩ := hw
  unfold iAny at c
  by_cases hq : ∃ xs g1, φ ρ g = .ok (.d (.tuple xs)) g1
  · obtain ⟨xs, g1, q⟩ := hq
    refine (pi_tup (tg := tg) h).run pins s σ H R I ?_
    refine tD_bindI r c fun y g2 v H1 D1 e r1 gr vr c1 => ?_
    rw [q] at e
    cases e
    cases vr with
    | tup h1 h2 =>
      rename_i a vs
      rw [hK]
      exact ⟨a, rfl, ⟨vs, Sub.st r1.sub h1⟩, c1 _ _ _ r1 .refl (itIs_tup h1 h2)⟩
  · refine (pi_list (tg := tg) h).run pins s σ H R I ?_
    refine tD_bindI r c fun y g2 v H1 D1 e r1 gr vr c1 => ?_
    cases y with
    | d x =>
      cases x with
      | list xs =>
        cases vr with
        | lst h1 h2 =>
          rename_i a vs
          rw [hK]
          exact ⟨a, rfl, ⟨vs, Sub.sl r1.sub h1⟩, c1 _ _ _ r1 .refl (itIs_list h1 h2)⟩
      | tuple xs => exact absurd ⟨xs, g2, e⟩ hq
      | _ => exact c1.elim
    | _ => exact c1.elim
end
end Dn

set_option Elab.async false
set_option linter.all false
set_option autoImplicit false
set_option maxRecDepth 100000
set_option maxHeartbeats 4000000
namespace Dn
open PySem PySem.Spec PyProof.Rows L2
section
variable {γ : Type} {X : Cx} {P : Pm γ} {σ : L2.St} {H D H1 D1 H2 D2 H' D' : Hp} {ρ : Env} {g g1 g2 : γ} {e a b c : Expr} {φ ψ τ : Fn γ} {Φ Ψ : FnA γ} {t : TE} {pos : Pos} {Q : VK}

/-- range of one, two ends -/
def iRng1F (Φ : FnA γ) : FnI γ := fun ρ g => (Φ ρ g).bindI fun ys g1 => match ys with
  | [.d (.int j)] => if -(2 ^ 62) ≤ j ∧ j < 2 ^ 62 then .ok ((List.range j.toNat).map fun k => .int (0 + (k : Nat))) g1 else .stuck
  | _ => .stuck
def iRng2F (Φ : FnA γ) : FnI γ := fun ρ g => (Φ ρ g).bindI fun ys g1 => match ys with
  | [.d (.int i), .d (.int j)] => if -(2 ^ 62) ≤ i ∧ i < 2 ^ 62 ∧ -(2 ^ 62) ≤ j ∧ j < 2 ^ 62 then .ok ((List.range (j - i).toNat).map fun k => .int (i + (k : Nat))) g1 else .stuck
  | _ => .stuck
theorem dirng1 {tg : Expr} {p : Pos} (hg : Gl X "range" := by rfl) (hm : X.mg "range" = none) (ha : DA X P [a] Φ) (hs : starEach [a] X.env = [(false, eval a X.env)] := by rfl) : DI X P tg (.Call (.Name "range" p) [a] [] pos) (iRng1F Φ) := by
  refine ⟨fun pins s σ H R I hw => (pi_range1 (tg := tg) hg hm ha hs).run pins s σ H R I ?_⟩
  obtain ⟨D, ρ, g, r, c⟩ := hw
  refine tDA_bindI r c fun ys g1 vs H1 D1 _ r1 gr vr c1 => ?_
  match ys, vr, c1 with
  | [.d (.int j)], .cons h1 .nil, c1 =>
    simp only at c1
    by_cases hj : -(2 ^ 62) ≤ j ∧ j < 2 ^ 62
    · rw [if_pos hj] at c1
      cases h1
      exact ⟨j, rfl, hj.1, hj.2, c1 _ _ _ r1 .refl (itIs_range 0 j.toNat)⟩
    · rw [if_neg hj] at c1; exact c1.elim
theorem dirng2 {tg : Expr} {p : Pos} (hg : Gl X "range" := by rfl) (hm : X.mg "range" = none) (ha : DA X P [a, b] Φ) (hs : starEach [a, b] X.env = [(false, eval a X.env), (false, eval b X.env)] := by rfl) (hs2 : starEach [b] X.env = [(false, eval b X.env)] := by rfl) : DI X P tg (.Call (.Name "range" p) [a, b] [] pos) (iRng2F Φ) := by
  refine ⟨fun pins s σ H R I hw => (pi_range2 (tg := tg) hg hm ha hs hs2).run pins s σ H R I ?_⟩
  obtain ⟨D, ρ, g, r, c⟩ := hw
  refine tDA_bindI r c fun ys g1 vs H1 D1 _ r1 gr vr c1 => ?_
  match ys, vr, c1 with
  | [.d (.int i), .d (.int j)], .cons h1 (.cons h2 .nil), c1 =>
    simp only at c1
    by_cases hj : -(2 ^ 62) ≤ i ∧ i < 2 ^ 62 ∧ -(2 ^ 62) ≤ j ∧ j < 2 ^ 62
    · rw [if_pos hj] at c1
      cases h1
      cases h2
      exact ⟨i, j, rfl, hj, c1 _ _ _ r1 .refl (itIs_range i (j - i).toNat)⟩
    · rw [if_neg hj] at c1; exact c1.elim
  
/-- what a value that holds data may be: a list, a tuple -/
def seqOf : SV → Option (List PyData)
  | .d (.list xs) => some xs
  | .d (.tuple xs) => some xs
  | .l xs => some xs
  | .b xs => some xs
  | _ => none

/-! ### targets -/
abbrev Asg := PyData → Env → Option Env
structure TgIs (P : Pm γ) (gt : TG) (asg : Asg) : Prop where
  run : ∀ (v : V) (y : PyData) (σ : L2.St) (H D : Hp) (ρ : Env) (g : γ) (ρ' : Env) (Q : L2.St → Hp → Prop), Rep P σ H D ρ g → Dp P.K D v y → asg y ρ = some ρ' → (∀ σ', Rep P σ' H D ρ' g → Q σ' H) → gt v σ H Q
def asgN (i : Nat) : Asg := fun y ρ => if i < ρ.length then some (ρ.set i (some (.d y))) else none
theorem tgN (i : Nat) : TgIs P (gName i) (asgN i) := ⟨fun v y σ H D ρ g ρ' Q r h e q => by
  unfold asgN at e
  by_cases hi : i < ρ.length
  · rw [if_pos hi] at e
    cases e
    exact q _ (r.put hi h (fun _ z => nomatch z) fun xs a z => nomatch z)
  · rw [if_neg hi] at e; cases e⟩
abbrev Asgs := List PyData → Env → Option Env
structure TgsIs (P : Pm γ) (gt : TGs) (asg : Asgs) : Prop where
  run : ∀ (vs : List V) (ys : List PyData) (σ : L2.St) (H D : Hp) (ρ : Env) (g : γ) (ρ' : Env) (Q : L2.St → Hp → Prop), Rep P σ H D ρ g → DpAll P.K D vs ys → asg ys ρ = some ρ' → (∀ σ', Rep P σ' H D ρ' g → Q σ' H) → gt vs σ H Q
def asgNil : Asgs := fun ys ρ => match ys with
  | [] => some ρ
  | _ => none
def asgCons (f : Asg) (r : Asgs) : Asgs := fun ys ρ => match ys with
  | y :: t => (f y ρ).bind (r t)
  | [] => none
theorem tgsNil : TgsIs P gNil asgNil := ⟨fun vs ys σ H D ρ g ρ' Q r h e q => by
  cases h with
  | nil => cases e; exact ⟨rfl, q σ r⟩
  | cons _ _ => cases e⟩
theorem tgsCons {gt : TG} {gts : TGs} {f : Asg} {r : Asgs} (h1 : TgIs P gt f) (h2 : TgsIs P gts r) : TgsIs P (gCons gt gts) (asgCons f r) := ⟨fun vs ys σ H D ρ g ρ' Q r h e q => by
  cases h with
  | nil => cases e
  | cons h t =>
    rename_i v vs d ds
    unfold asgCons at e
    simp only at e
    cases k : f d ρ with
    | none => rw [k] at e; cases e
    | some ρ1 =>
      rw [k] at e
      exact ⟨v, vs, rfl, h1.run v d σ H D ρ g ρ1 _ r h k fun σ1 r1 => h2.run vs ds σ1 H D ρ1 g ρ' Q r1 t e q⟩⟩
def asgT (n : Nat) (r : Asgs) : Asg := fun y ρ => match y with
  | .tuple ys => if ys.length = n then r ys ρ else none
  | _ => none
theorem tgT {n : Nat} {gts : TGs} {r : Asgs} (h : TgsIs P gts r) : TgIs P (gTup P.K n gts) (asgT n r) := ⟨fun v y σ H D ρ g ρ' Q r0 hd e q => by
  cases hd with
  | tup h1 h2 =>
    unfold asgT at e
    simp only at e
    split at e
    · rename_i hn
      exact ⟨_, _, rfl, Sub.st r0.sub h1, by rw [DpAll.len h2]; exact hn, h.run _ _ σ H D ρ g ρ' Q r0 h2 e q⟩
    · cases e
  | _ => cases e⟩

/-! ### for -/
def loopD (asg : Asg) (body : SFn γ) : List PyData → SFn γ
  | [], ρ, g => .next ρ g
  | y :: ys, ρ, g => match asg y ρ with
    | none => .stuck
    | some ρ1 => match body ρ1 g with
      | .next ρ2 g2 => loopD asg body ys ρ2 g2
      | .cont ρ2 g2 => loopD asg body ys ρ2 g2
      | .brk ρ2 g2 => .next ρ2 g2
      | o => o
def OutI.bindS (o : OutI γ) (ρ : Env) (k : List PyData → γ → SOut γ) : SOut γ := match o with
  | .ok ys g => k ys g
  | .exc C fs g => .exc C fs ρ g
  | .stuck => .stuck
def sFor (Ι : FnI γ) (asg : Asg) (body : SFn γ) : SFn γ := fun ρ g => (Ι ρ g).bindS ρ fun ys g1 => loopD asg body ys ρ g1
theorem dfor {tg iter : Expr} {body : List Stmt} {Ι : FnI γ} {gt : TG} {asg : Asg} {ψ : SFn γ} (hp : PassesOwn (model X.prog X.w) X.A X.env X.xe) (hc : X.calm = true) (hi : DI X P tg iter Ι) (hg : PG X tg gt) (ht : TgIs P gt asg) (hb : DSs X P body ψ)
    (hfs : ∀ x, foldedSetIterable iter X.env x = pure x := by intro _; rfl) : DS X P (.For tg iter body [] pos) (sFor Ι asg ψ) := PS.imp (ps_for hp hc hi hg hb hfs) fun E σ H ⟨D, ρ, g, r, c⟩ => by
  refine ⟨D, ρ, g, r, ?_⟩
  unfold sFor at c
  cases q : Ι ρ g with
  | exc C fs g1 => rw [q] at c; exact fun d vfs H' D' r' gr h1 h2 => c σ d vfs H' D' r' gr.dk h1 h2
  | stuck => rw [q] at c; exact c
  | ok ys g1 =>
    rw [q] at c
    intro J H1 D1 r1 gr it
    have c' : ContS P D1 (loopD asg ψ ys ρ g1) E := ContS.back gr.dk c
    refine ⟨fun i m σ' H' => m = ys.length - i ∧ ∃ D' ρ' g', Rep P σ' H' D' ρ' g' ∧ Sub D1 D' ∧ ContS P D' (loopD asg ψ (ys.drop i) ρ' g') E, ⟨ys.length, by simp, D1, ρ, g1, r1, Sub.refl _, by simpa using c'⟩, ?_⟩
    rintro i m σ' H' ⟨rfl, D', ρ', g', r', s', c2⟩
    by_cases hlt : i < ys.length
    · have e : ys[i]? = some ys[i] := by simp [hlt]
      obtain ⟨hgo, hy⟩ := it.go i _ H' D' e s' r'.sub
      refine .inr ⟨hgo, fun σ'' H'' => ∃ D'' ρ'' g'', Rep P σ'' H'' D'' ρ'' g'' ∧ Sub D1 D'' ∧ ContS P D'' (loopD asg ψ (ys.drop (i + 1)) ρ'' g'') E, fun σ'' H'' ⟨D'', ρ'', g'', r'', s'', c3⟩ => ⟨ys.length - (i + 1), by omega, rfl, D'', ρ'', g'', r'', s'', c3⟩, fun x H3 hx => ?_⟩
      obtain ⟨D3, l, dp⟩ := hy x H3 hx
      have r3 := r'.lg l
      rw [List.drop_eq_getElem_cons hlt] at c2
      unfold loopD at c2
      cases k : asg ys[i] ρ' with
      | none => rw [k] at c2; exact c2.elim
      | some ρ1 =>
        rw [k] at c2
        simp only at c2
        refine ht.run x ys[i] σ' H3 D3 ρ' g' ρ1 _ r3 dp k fun σ4 r4 => ⟨D3, ρ1, g', r4, ?_⟩
        have s3 : Sub D1 D3 := s'.trans l.dk
        have c3 := ContS.back l.dk c2
        cases w : ψ ρ1 g' with
        | next ρ2 g2 => rw [w] at c3; exact fun σ5 H5 D5 r5 s5 => ⟨D5, ρ2, g2, r5, s3.trans s5, ContS.back s5 c3⟩
        | cont ρ2 g2 => rw [w] at c3; exact fun σ5 H5 D5 r5 s5 => ⟨D5, ρ2, g2, r5, s3.trans s5, ContS.back s5 c3⟩
        | brk ρ2 g2 => rw [w] at c3; exact c3
        | ret y g2 => rw [w] at c3; exact c3
        | exc C fs ρ2 g2 => rw [w] at c3; exact c3
        | stuck => rw [w] at c3; exact c3
    · have hd : ys.drop i = [] := List.drop_eq_nil_of_le (by omega)
      rw [hd] at c2
      exact .inl ⟨it.stop i H' D' (by omega) s' r'.sub, c2 σ' H' D' r' (Sub.refl _)⟩

/-! ### while: by fuel -/
def whileD (τ : Fn γ) (body : SFn γ) : Nat → SFn γ
  | 0, _, _ => .stuck
  | n + 1, ρ, g => (τ ρ g).bindT ρ fun b g1 => if b = true then (match body ρ g1 with
      | .next ρ2 g2 => whileD τ body n ρ2 g2
      | .cont ρ2 g2 => whileD τ body n ρ2 g2
      | .brk ρ2 g2 => .next ρ2 g2
      | o => o) else .next ρ g1
theorem dwhile {body : List Stmt} {ψ : SFn γ} (n : Nat) (hp : PassesOwn (model X.prog X.w) X.A X.env X.xe) (hc : DT X P c τ) (hb : DSs X P body ψ) : DS X P (.While c body [] pos) (whileD τ ψ n) := PS.imp (ps_while hp hc hb) fun E σ H ⟨D, ρ, g, r, c⟩ => by
  refine ⟨fun m σ' H' => ∃ D' ρ' g', Rep P σ' H' D' ρ' g' ∧ ContS P D' (whileD τ ψ m ρ' g') E, ⟨n, D, ρ, g, r, c⟩, ?_⟩
  rintro m σ' H' ⟨D', ρ', g', r', c'⟩
  cases m with
  | zero => exact c'.elim
  | succ m =>
    unfold whileD at c'
    refine tDT_bindS r' c' fun b g1 H1 D1 _ r1 gr c1 => ?_
    cases b with
    | false => exact c1 σ' H1 D1 r1 (Sub.refl _)
    | true =>
      refine ⟨fun σ'' H'' => ∃ D'' ρ'' g'', Rep P σ'' H'' D'' ρ'' g'' ∧ ContS P D'' (whileD τ ψ m ρ'' g'') E, fun σ'' H'' h => ⟨m, by omega, h⟩, D1, ρ', g1, r1, ?_⟩
      simp only [if_true] at c1
      cases w : ψ ρ' g1 with
      | next ρ2 g2 => rw [w] at c1; exact fun σ5 H5 D5 r5 s5 => ⟨D5, ρ2, g2, r5, ContS.back s5 c1⟩
      | cont ρ2 g2 => rw [w] at c1; exact fun σ5 H5 D5 r5 s5 => ⟨D5, ρ2, g2, r5, ContS.back s5 c1⟩
      | brk ρ2 g2 => rw [w] at c1; exact c1
      | ret y g2 => rw [w] at c1; exact c1
      | exc C fs ρ2 g2 => rw [w] at c1; exact c1
      | stuck => rw [w] at c1; exact c1
end
end Dn

set_option Elab.async false
set_option linter.all false
set_option autoImplicit false
set_option maxRecDepth 100000
set_option maxHeartbeats 4000000
namespace Dn
open PySem PySem.Spec PyProof.Rows L2
section
variable {γ : Type} {X : Cx} {P : Pm γ} {σ : L2.St} {H D H1 D1 H2 D2 H' D' : Hp} {ρ : Env} {g g1 g2 : γ} {e a b c : Expr} {φ ψ τ : Fn γ} {Φ Ψ : FnA γ} {t : TE} {pos : Pos} {Q : VK}

abbrev Pm.nox (P : Pm γ) : Pm γ := { P with W := fun _ _ _ _ => False }
theorem Rep.nox (r : Rep P σ H D ρ g) : Rep P.nox σ H D ρ g := ⟨r.grow, r.sub, r.f0, r.len, r.slot, r.own, r.nob, r.apart, r.fd, r.res⟩
theorem Rep.unnox (r : Rep P.nox σ H D ρ g) : Rep P σ H D ρ g := ⟨r.grow, r.sub, r.f0, r.len, r.slot, r.own, r.nob, r.apart, r.fd, r.res⟩
def wipeE (ρ : Env) : List Nat → Env
  | [] => ρ
  | v :: vs => (wipeE ρ vs).set v none
theorem Rep.wipe (r : Rep P σ H D ρ g) : ∀ vs : List Nat, Rep P (L2.wipe σ vs) H D (wipeE ρ vs) g
  | [] => r
  | v :: vs => (Rep.wipe r vs).forget v
/-- a list that no name holds is written -/
theorem Rep.side (r : Rep P σ H D ρ g) {a : Addr} {us : List V} (hd : D a = none) (nf : ¬ P.rs.fp a) (h0 : P.H0 a = none) (no : ∀ (j : Nat) (zs : List PyData), ρ[j]? = some (some (.l zs)) → σ[j]? ≠ some (some (.ref a))) :
    Rep P σ (upd H a (.lst us)) D ρ g := by
  have nd : ∀ b o, D b = some o → b ≠ a := fun b o hb z => by rw [z, hd] at hb; cases hb
  refine ⟨⟨fun b o nb hb => ?_, fun b hb => ?_, r.grow.dk, r.grow.dn⟩, fun b o hb => ?_, r.f0, r.len, fun j z ej => ?_, r.own, r.nob, r.apart, r.fd, P.rs.loc g H _ (fun b hb => upd_ne (fun z => nf (by rw [← z]; exact hb))) r.res⟩
  · have hne : b ≠ a := fun z => by rw [z, h0] at hb; cases hb
    rw [upd_ne hne]
    exact r.grow.keep b o nb hb
  · by_cases z : b = a
    · subst z; rw [upd_same]; exact fun z => nomatch z
    · rw [upd_ne z]; exact r.grow.th b hb
  · rw [upd_ne (nd b o hb)]
    exact r.sub b o hb
  · obtain ⟨w, e5, h5⟩ := r.slot j z ej
    refine ⟨w, e5, ?_⟩
    have key : ∀ zs, LstAt P.K P.rs H D w zs → (z = .l zs ∨ z = .b zs) → LstAt P.K P.rs (upd H a (.lst us)) D w zs := fun zs hl hz => by
      obtain ⟨b, ws, rfl, k1, k2, k3, k4⟩ := hl
      have hb : b ≠ a := by
        rcases hz with hz | hz
        · subst hz
          exact fun q => no j zs ej (by rw [e5, q])
        · subst hz
          exact absurd ej (r.nob j zs)
      exact ⟨b, ws, rfl, by rw [upd_ne hb]; exact k1, k2, k3, k4⟩
    cases z with
    | d x => exact h5
    | l zs => exact key zs h5 (.inl rfl)
    | b zs => exact key zs h5 (.inr rfl)
    | h => exact h5

/-- a comprehension's turns -/
def lcD (asg : Asg) (cond elt : Fn γ) (ρ : Env) : List PyData → γ → Option (List PyData × γ)
  | [], g => some ([], g)
  | y :: ys, g => match asg y ρ with
    | none => none
    | some ρ1 => match cond ρ1 g with
      | .ok (.d (.bool true)) g1 => (match elt ρ1 g1 with
        | .ok (.d x) g2 => (lcD asg cond elt ρ ys g2).map fun p => (x :: p.1, p.2)
        | _ => none)
      | .ok (.d (.bool false)) g1 => lcD asg cond elt ρ ys g1
      | _ => none
theorem lcD_len {asg : Asg} {cond elt : Fn γ} {ρ : Env} : ∀ {ys : List PyData} {g : γ} {p : List PyData × γ}, lcD asg cond elt ρ ys g = some p → p.1.length ≤ ys.length
  | [], g, p, h => by cases h; exact Nat.le_refl _
  | y :: ys, g, p, h => by
    unfold lcD at h
    split at h
    · cases h
    · split at h
      · split at h
        · rename_i x g2 _
          cases q : lcD asg cond elt ρ ys g2 with
          | none => rw [q] at h; cases h
          | some p' =>
            rw [q] at h
            cases h
            have := lcD_len q
            simp; exact this
        · cases h
      · have := lcD_len h
        simp; omega
      · cases h
def OutI.bind (o : OutI γ) (k : List PyData → γ → Out γ) : Out γ := match o with
  | .ok ys g => k ys g
  | .exc C fs g => .exc C fs g
  | .stuck => .stuck
def fLc (own : List Nat) (Ι : FnI γ) (asg : Asg) (cond elt : Fn γ) : Fn γ := fun ρ g => (Ι ρ g).bind fun ys g1 => if ys.length ≤ 100000 then (match lcD asg cond elt (wipeE ρ own) ys g1 with
  | some p => .ok (.l p.1) p.2
  | none => .stuck) else .stuck
/-- the target of a comprehension changes its own slots alone -/
def TgOwn (gt : TG) (vs : List Nat) : Prop := ∀ v σ H Q, gt v σ H Q → gt v σ H fun σ2 H2 => L2.wipe σ2 vs = L2.wipe σ vs ∧ Q σ2 H2
theorem wipe_set {σ : L2.St} {i : Nat} {x : Option V} : ∀ {vs : List Nat}, i ∈ vs → L2.wipe (σ.set i x) vs = L2.wipe σ vs := fun {vs} hi => by
  apply List.ext_getElem?
  intro j
  have hw : ∀ (l : L2.St) (vs : List Nat), j ∈ vs → (L2.wipe l vs)[j]? = if j < l.length then some none else none := fun l vs => by
    induction vs with
    | nil => intro h; cases h
    | cons v r ih =>
      intro h
      show ((L2.wipe l r).set v none)[j]? = _
      by_cases e : v = j
      · subst e
        rw [List.getElem?_set, if_pos rfl, L2.wipe_length]
      · rw [List.getElem?_set_ne e]
        exact ih ((List.mem_cons.mp h).resolve_left (Ne.symm e))
  by_cases hj : j ∈ vs
  · rw [hw _ _ hj, hw _ _ hj, List.length_set]
  · rw [wipe_out hj, wipe_out hj, List.getElem?_set_ne (fun e => hj (by rw [← e]; exact hi))]
theorem towN {i : Nat} {vs : List Nat} (h : i ∈ vs) : TgOwn (gName i) vs := fun v σ H Q q => ⟨wipe_set h, q⟩
def TgsOwn (gt : TGs) (vs : List Nat) : Prop := ∀ us σ H Q, gt us σ H Q → gt us σ H fun σ2 H2 => L2.wipe σ2 vs = L2.wipe σ vs ∧ Q σ2 H2
theorem towNil {vs : List Nat} : TgsOwn gNil vs := fun us σ H Q ⟨e, q⟩ => ⟨e, rfl, q⟩
theorem tg_mono_name {i : Nat} {v : V} {σ : L2.St} {H : Hp} {Q Q' : L2.St → Hp → Prop} (h : ∀ σ H, Q σ H → Q' σ H) (q : gName i v σ H Q) : gName i v σ H Q' := h _ _ q
def TgMono (gt : TG) : Prop := ∀ v σ H (Q Q' : L2.St → Hp → Prop), (∀ σ H, Q σ H → Q' σ H) → gt v σ H Q → gt v σ H Q'
def TgsMono (gt : TGs) : Prop := ∀ v σ H (Q Q' : L2.St → Hp → Prop), (∀ σ H, Q σ H → Q' σ H) → gt v σ H Q → gt v σ H Q'
theorem tmN {i : Nat} : TgMono (gName i) := fun _ _ _ _ _ h q => h _ _ q
theorem tmNil : TgsMono gNil := fun _ _ _ _ _ h ⟨e, q⟩ => ⟨e, h _ _ q⟩
theorem tmCons {gt : TG} {gts : TGs} (h1 : TgMono gt) (h2 : TgsMono gts) : TgsMono (gCons gt gts) := fun us σ H Q Q' h ⟨v, r, e, q⟩ => ⟨v, r, e, h1 v σ H _ _ (fun σ1 H1 q1 => h2 r σ1 H1 Q Q' h q1) q⟩
theorem towCons {gt : TG} {gts : TGs} {vs : List Nat} (h1 : TgOwn gt vs) (m1 : TgMono gt) (h2 : TgsOwn gts vs) (m2 : TgsMono gts) : TgsOwn (gCons gt gts) vs := fun us σ H Q ⟨v, r, e, q⟩ =>
  ⟨v, r, e, m1 v σ H _ _ (fun σ1 H1 ⟨w1, q1⟩ => m2 r σ1 H1 _ _ (fun σ2 H2 ⟨w2, q2⟩ => ⟨w2.trans w1, q2⟩) (h2 r σ1 H1 Q q1)) (h1 v σ H _ q)⟩
theorem towT {K : PySem.W.Frag} {n : Nat} {gts : TGs} {vs : List Nat} (h : TgsOwn gts vs) : TgOwn (gTup K n gts) vs := fun v σ H Q ⟨a, xs, e, hs, hl, q⟩ => ⟨a, xs, e, hs, hl, h xs σ H Q q⟩
theorem wipe_wipe {σ : L2.St} : ∀ (vs : List Nat), L2.wipe (L2.wipe σ vs) vs = L2.wipe σ vs := fun vs => by
  apply List.ext_getElem?
  intro j
  have hw : ∀ (l : L2.St) (vs : List Nat), j ∈ vs → (L2.wipe l vs)[j]? = if j < l.length then some none else none := fun l vs => by
    induction vs with
    | nil => intro h; cases h
    | cons v r ih =>
      intro h
      show ((L2.wipe l r).set v none)[j]? = _
      by_cases e : v = j
      · subst e
        rw [List.getElem?_set, if_pos rfl, L2.wipe_length]
      · rw [List.getElem?_set_ne e]
        exact ih ((List.mem_cons.mp h).resolve_left (Ne.symm e))
  by_cases hj : j ∈ vs
  · rw [hw _ _ hj, hw _ _ hj, L2.wipe_length]
  · rw [wipe_out hj]
theorem lc_core {elt : Fn γ} {Ι : FnI γ} {gt : TG} {asg : Asg} {own : List Nat} {cond : Fn γ} (ht : TgIs P.nox gt asg) (ho : TgOwn gt own) {tt : TT} (htt : ∀ σ H Q, tDT P.nox cond σ H Q → tt σ H Q) {σ : L2.St} {H : Hp} {Q : VK}
    (h : tD P (fLc own Ι asg cond elt) σ H Q) : tLc (tDI P Ι) gt tt (tD P.nox elt) own σ H Q := by
  obtain ⟨D, ρ, g, r, c⟩ := h
  refine ⟨D, ρ, g, r, ?_⟩
  unfold fLc at c
  cases q : Ι ρ g with
  | exc C fs g1 => rw [q] at c; exact c
  | stuck => rw [q] at c; exact c
  | ok ys g1 =>
    rw [q] at c
    intro J H1 D1 r1 gr it
    have c' := Cont.back gr c
    simp only [OutI.bind] at c'
    by_cases hl : ys.length ≤ 100000
    · rw [if_pos hl] at c'
      cases k : lcD asg cond elt (wipeE ρ own) ys g1 with
      | none => rw [k] at c'; exact c'.elim
      | some p =>
        rw [k] at c'
        simp only at c'
        intro A hA
        have nf : ¬ P.rs.fp A := r1.nfp hA
        have h0 : P.H0 A = none := by
          cases z : P.H0 A with
          | none => rfl
          | some o => exact absurd hA (r1.grow.th A (ne_none z))
        have no : ∀ (j : Nat) (zs : List PyData), (wipeE ρ own)[j]? = some (some (.l zs)) → (L2.wipe σ own)[j]? ≠ some (some (.ref A)) := fun j zs e1 e2 => by
          obtain ⟨v, e3, h3⟩ := (r1.wipe own).slot j _ e1
          rw [e2] at e3
          cases e3
          obtain ⟨b, us, e4, h4, _⟩ := h3
          cases e4
          rw [hA] at h4
          cases h4
        have hd1 : D1 A = none := by
          cases z : D1 A with
          | none => rfl
          | some u => rw [r1.sub A u z] at hA; cases hA
        -- the invariant: what is made so far, what is still to come
        refine ⟨fun i m H' => m = ys.length - i ∧ ∃ D' us acc g', Grow P.rs.fp H1 D1 H' D' ∧ Rep P (L2.wipe σ own) H' D' (wipeE ρ own) g' ∧ H' A = some (.lst us) ∧ D' A = none ∧ DpAll P.K D' us acc ∧ acc.length ≤ i ∧
            ∃ p', lcD asg cond elt (wipeE ρ own) (ys.drop i) g' = some p' ∧ acc ++ p'.1 = p.1 ∧ p'.2 = p.2, ⟨ys.length, by simp, D1, [], [], g1, (LG.new r1.sub hA).grow, ((r1.wipe own).lg (LG.new r1.sub hA)), upd_same, hd1, .nil, Nat.le_refl _, p, by simpa using k, by simp, rfl⟩, ?_⟩
        rintro i m H' ⟨rfl, D', us, acc, g', gr', r', hA', hD', dp, hle, p', k', e1, e2⟩
        by_cases hlt : i < ys.length
        · have e : ys[i]? = some ys[i] := by simp [hlt]
          obtain ⟨hgo, hy⟩ := it.go i _ H' D' e gr'.dk r'.sub
          refine .inr ⟨hgo, fun H'' => ∃ D'' us acc g'', Grow P.rs.fp H1 D1 H'' D'' ∧ Rep P (L2.wipe σ own) H'' D'' (wipeE ρ own) g'' ∧ H'' A = some (.lst us) ∧ D'' A = none ∧ DpAll P.K D'' us acc ∧ acc.length ≤ i + 1 ∧
            ∃ p', lcD asg cond elt (wipeE ρ own) (ys.drop (i + 1)) g'' = some p' ∧ acc ++ p'.1 = p.1 ∧ p'.2 = p.2, fun H'' h'' => ⟨ys.length - (i + 1), by omega, rfl, h''⟩, fun x H3 hx => ?_⟩
          obtain ⟨D3, l, dpx⟩ := hy x H3 hx
          have r3 := r'.lg l
          have hA3 := l.keep _ _ hA'
          have hD3 := l.dn _ (ne_none hA') hD'
          have gr3 := gr'.trans l.grow
          rw [List.drop_eq_getElem_cons hlt] at k'
          unfold lcD at k'
          cases w : asg ys[i] (wipeE ρ own) with
          | none => rw [w] at k'; cases k'
          | some ρ1 =>
            rw [w] at k'
            simp only at k'
            have body : gt x (L2.wipe σ own) H3 fun σ2 H2 => tt σ2 H2 fun b H3 => if b = true then tD P.nox elt σ2 H3 fun y H4 => ∃ acc, H4 A = some (.lst acc) ∧ acc.length < sizeLine ∧ (fun H'' => ∃ D'' us acc g'', Grow P.rs.fp H1 D1 H'' D'' ∧ Rep P (L2.wipe σ own) H'' D'' (wipeE ρ own) g'' ∧ H'' A = some (.lst us) ∧ D'' A = none ∧ DpAll P.K D'' us acc ∧ acc.length ≤ i + 1 ∧
            ∃ p', lcD asg cond elt (wipeE ρ own) (ys.drop (i + 1)) g'' = some p' ∧ acc ++ p'.1 = p.1 ∧ p'.2 = p.2) (upd H4 A (.lst (acc ++ [y]))) else (fun H'' => ∃ D'' us acc g'', Grow P.rs.fp H1 D1 H'' D'' ∧ Rep P (L2.wipe σ own) H'' D'' (wipeE ρ own) g'' ∧ H'' A = some (.lst us) ∧ D'' A = none ∧ DpAll P.K D'' us acc ∧ acc.length ≤ i + 1 ∧
            ∃ p', lcD asg cond elt (wipeE ρ own) (ys.drop (i + 1)) g'' = some p' ∧ acc ++ p'.1 = p.1 ∧ p'.2 = p.2) H3 := by
              refine ht.run x ys[i] _ H3 D3 _ g' ρ1 _ r3.nox dpx w fun σ4 r4 => htt _ _ _ ⟨D3, ρ1, g', r4, ?_⟩
              cases u : cond ρ1 g' with
              | exc C fs g2 => rw [u] at k'; cases k'
              | stuck => rw [u] at k'; cases k'
              | ok y g2 =>
                rw [u] at k'
                cases y with
                | l _ => cases k'
                | b _ => cases k'
                | h => cases k'
                | d z =>
                  cases z with
                  | bool bb =>
                    intro H5 D5 r5 gr5
                    have hA5 := gr5.keep _ _ nf hA3
                    have hD5 := gr5.dn _ (ne_none hA3) hD3
                    cases bb with
                    | false =>
                      rw [if_neg (by simp)]
                      exact ⟨D5, us, acc, g2, gr3.trans gr5, r3.step gr5 r5.sub r5.res, hA5, hD5, DpAll.up (fun x o h => gr5.dk _ _ (l.dk _ _ h)) _ _ dp, Nat.le_succ_of_le hle, p', k', e1, e2⟩
                    | true =>
                      rw [if_pos rfl]
                      simp only at k'
                      refine ⟨D5, ρ1, g2, r5, ?_⟩
                      cases v : elt ρ1 g2 with
                      | exc C fs g3 => rw [v] at k'; cases k'
                      | stuck => rw [v] at k'; cases k'
                      | ok y g3 =>
                        rw [v] at k'
                        cases y with
                        | l _ => cases k'
                        | b _ => cases k'
                        | h => cases k'
                        | d z =>
                          simp only at k'
                          intro vv H6 D6 r6 gr6 vr
                          have hA6 := gr6.keep _ _ nf hA5
                          have hD6 := gr6.dn _ (ne_none hA5) hD5
                          cases kk : lcD asg cond elt (wipeE ρ own) (ys.drop (i + 1)) g3 with
                          | none => rw [kk] at k'; cases k'
                          | some p3 =>
                            rw [kk] at k'
                            cases k'
                            have dp6 : DpAll P.K D6 us acc := DpAll.up (fun x o h => gr6.dk _ _ (gr5.dk _ _ (l.dk _ _ h))) _ _ dp
                            have r7 := (r3.step (gr5.trans gr6) r6.sub r6.res).side (us := us ++ [vv]) hD6 nf h0 no
                            have hul : us.length = acc.length := DpAll.len dp6
                            refine ⟨us, hA6, by rw [hul]; exact Nat.lt_of_le_of_lt (Nat.le_trans hle (Nat.le_trans (Nat.le_of_lt hlt) hl)) (by decide), D6, us ++ [vv], acc ++ [z], g3, ?_, r7, upd_same, hD6, DpAll.app dp6 (.cons vr .nil), by simp; omega, p3, kk, by rw [← e1]; simp, e2⟩
                            have g6 := (gr3.trans gr5).trans gr6
                            refine ⟨fun b o nb hb => ?_, fun b hb => ?_, g6.dk, g6.dn⟩
                            · have hne : b ≠ A := fun z => by rw [z, hA] at hb; cases hb
                              rw [upd_ne hne]; exact g6.keep b o nb hb
                            · by_cases z : b = A
                              · subst z; rw [upd_same]; exact fun z => nomatch z
                              · rw [upd_ne z]; exact g6.th b hb
                  | _ => cases k'
            have := ho x (L2.wipe σ own) H3 _ body
            rw [wipe_wipe] at this
            exact this
        · have hd : ys.drop i = [] := List.drop_eq_nil_of_le (by omega)
          rw [hd] at k'
          cases k'
          refine .inl ⟨it.stop i H' D' (by omega) gr'.dk r'.sub, ?_⟩
          have e3 : acc = p.1 := by simpa using e1
          have e4 : g' = p.2 := e2
          rw [← e3, ← e4] at c'
          exact c' (.ref A) H' D' (r1.step gr' r'.sub r'.res) gr' ⟨⟨A, us, rfl, hA', hD', nf, dp⟩, fun a ea => by cases ea; exact hA⟩
    · rw [if_neg hl] at c'; exact c'.elim
def fYes : Fn γ := fC (.bool true)
theorem dlc0 {elt tg iter : Expr} {scope : Scope} {own : List (Str × Nat)} {Ι : FnI γ} {gt : TG} {asg : Asg} {ψ : Fn γ} (hc : X.calm = true) (nd : X.N.Nodup) (hi : DI X P tg iter Ι) (ok : BlkOk X.N X.env.scope scope own)
    (hg : ∀ (s : Shared) (H : Hp) (C : Addr) (cl : List (Str × Addr)) (fp : List Addr), PG (X.blk s H scope (compEnvC scope cl C X.env) fp) tg gt) (ht : TgIs P.nox gt asg) (ho : TgOwn gt (own.map (·.2)))
    (he : ∀ (s : Shared) (H : Hp) (C : Addr) (cl : List (Str × Addr)) (fp : List Addr), DE (X.blk s H scope (compEnvC scope cl C X.env) fp) P.nox elt ψ) (hfs : ∀ x, foldedSetIterable iter X.env x = pure x := by intro _; rfl) :
    DE X P (.ListComp elt [⟨tg, iter, [], 0⟩] scope pos) (fLc (own.map (·.2)) Ι asg fYes ψ) :=
  PE.imp (pe_lc (own := own) hc nd hi ok hg (fun _ _ _ _ _ => pts_nil) he hfs) fun σ H Q => lc_core ht ho fun σ H Q ⟨D, ρ, g, r, c⟩ => c H D r .refl
theorem dlc1 {elt tg iter cnd : Expr} {scope : Scope} {own : List (Str × Nat)} {Ι : FnI γ} {gt : TG} {asg : Asg} {ψ : Fn γ} (hc : X.calm = true) (nd : X.N.Nodup) (hi : DI X P tg iter Ι) (ok : BlkOk X.N X.env.scope scope own)
    (hg : ∀ (s : Shared) (H : Hp) (C : Addr) (cl : List (Str × Addr)) (fp : List Addr), PG (X.blk s H scope (compEnvC scope cl C X.env) fp) tg gt) (ht : TgIs P.nox gt asg) (ho : TgOwn gt (own.map (·.2)))
    (hcn : ∀ (s : Shared) (H : Hp) (C : Addr) (cl : List (Str × Addr)) (fp : List Addr), DT (X.blk s H scope (compEnvC scope cl C X.env) fp) P.nox cnd τ)
    (he : ∀ (s : Shared) (H : Hp) (C : Addr) (cl : List (Str × Addr)) (fp : List Addr), DE (X.blk s H scope (compEnvC scope cl C X.env) fp) P.nox elt ψ) (hfs : ∀ x, foldedSetIterable iter X.env x = pure x := by intro _; rfl) :
    DE X P (.ListComp elt [⟨tg, iter, [cnd], 0⟩] scope pos) (fLc (own.map (·.2)) Ι asg τ ψ) :=
  PE.imp (pe_lc (own := own) hc nd hi ok hg (fun _ _ _ _ _ => pts_one (hcn _ _ _ _ _)) he hfs) fun σ H Q => lc_core ht ho fun σ H Q q => q
end
end Dn

set_option Elab.async false
set_option linter.all false
set_option autoImplicit false
set_option maxRecDepth 100000
set_option maxHeartbeats 4000000
namespace Dn
open PySem PySem.Spec PyProof.Rows L2

/-- what a def that uses no resource promises -/
def QP (K : PySem.W.Frag) (H D : Hp) (o : Out Unit) (Q : VK) (E : XK) : Prop := match o with
  | .ok y _ => ∀ v H' D', LG H D H' D' → VR K rs0 H H' D' v y → Q v H'
  | .exc C fs _ => ∀ d vfs H' D', LG H D H' D' → H' d = some (.xd vfs) → FR K D' vfs fs → E (.ref C) (some d) H'
  | .stuck => False
def spP (K : PySem.W.Frag) (n : Nat) (f : List PyData → Out Unit) : Sp := fun vs H Q E => vs.length = n ∧ ∃ D ds, Sub D H ∧ DpAll K D vs ds ∧ QP K H D (f ds) Q E
/-- what a def keeps where no repr is under way around it -/
structure FnG (gd : Prop) (P : Program) (w : World) (K : PySem.W.Frag) (mg : Str → Option Value) (base : Heap) (k : Nat) (f : Addr) (fd : FuncData) (ps : List Str) (sp : Sp) : Prop where
  len : ∀ vs H Q E, sp vs H Q E → vs.length = ps.length
  run : ∀ (A : Around) (outer : List PySem.Env) (s : Shared) (H : Hp) (args : Args) (us : List Value) (vs : List V) (Q : VK) (E : XK), (gd → A.guards = some []) → Room k A → Env0 P w K mg base A outer s H →
    BindsTo s fd args (ps.zip us) → Vals vs us → sp vs H Q E → codeAny (model P w) A (.call (.ref f) args) (CR (L2.CX P w) outer P w H s Q E) s
theorem FnG.of {gd : Prop} {P : Program} {w : World} {K : PySem.W.Frag} {mg : Str → Option Value} {base : Heap} {k : Nat} {f : Addr} {fd : FuncData} {ps : List Str} {sp : Sp} (F : FnOk P w K mg base (L2.CX P w) k f fd ps sp) : FnG gd P w K mg base k f fd ps sp :=
  ⟨F.len, fun A outer s H args us vs Q E _ => F.run A outer s H args us vs Q E⟩
theorem FnG.imp {gd : Prop} {P : Program} {w : World} {K : PySem.W.Frag} {mg : Str → Option Value} {base : Heap} {k : Nat} {f : Addr} {fd : FuncData} {ps : List Str} {sp sp' : Sp} (F : FnG gd P w K mg base k f fd ps sp) (i : ∀ vs H Q E, sp' vs H Q E → sp vs H Q E) : FnG gd P w K mg base k f fd ps sp' :=
  ⟨fun vs H Q E q => F.len vs H Q E (i _ _ _ _ q), fun A outer s H args us vs Q E hG hr he hb hv hs => F.run A outer s H args us vs Q E hG hr he hb hv (i _ _ _ _ hs)⟩
section
variable {γ : Type} {gd : Prop} {X : Cx} {P : Pm γ} {σ : L2.St} {H D H1 D1 H2 D2 H' D' : Hp} {ρ : Env} {g g1 g2 : γ} {e a b c : Expr} {φ ψ τ : Fn γ} {Φ Ψ : FnA γ} {t : TE} {pos : Pos} {Q : VK}
def liftO (o : Out Unit) (g : γ) : Out γ := match o with
  | .ok (.d x) _ => .ok (.d x) g
  | .ok (.l xs) _ => .ok (.l xs) g
  | .exc C fs _ => .exc C fs g
  | _ => .stuck
def fCall (n : Nat) (f : List PyData → Out Unit) (Φ : FnA γ) : Fn γ := fun ρ g => (Φ ρ g).bind fun ys g1 => match allD ys with
  | some ds => if ds.length = n then liftO (f ds) g1 else .stuck
  | none => .stuck
theorem call_of {n : Nat} {f : List PyData → Out Unit} (r1 : Rep P σ H1 D1 ρ g1) {ys : List SV} {vs : List V} (vr : ARs P.K P.rs H1 D1 vs ys) (c1 : Cont P σ H1 D1 ρ (match allD ys with | some ds => if ds.length = n then liftO (f ds) g1 else .stuck | none => .stuck) Q) :
    spP P.K n f vs H1 Q (WE P.W σ) := by
  cases q : allD ys with
  | none => simp only [q] at c1; exact c1.elim
  | some ds =>
    simp only [q] at c1
    by_cases hn : ds.length = n
    · rw [if_pos hn] at c1
      refine ⟨by rw [vr.len, ← allD_len q]; exact hn, D1, ds, r1.sub, vr.allD q, ?_⟩
      unfold QP
      cases w : f ds with
      | ok y u =>
        rw [w] at c1
        intro v H' D' l h
        cases y with
        | d x => exact c1 v H' D' (r1.lg l) l.grow h
        | l xs =>
          obtain ⟨⟨a, us, e, k1, k2, _, k4⟩, k5⟩ := h
          exact c1 v H' D' (r1.lg l) l.grow ⟨⟨a, us, e, k1, k2, r1.nfp (k5 a e), k4⟩, k5⟩
        | b xs => exact c1.elim
        | h => exact c1.elim
      | exc C fs u =>
        rw [w] at c1
        exact fun d vfs H' D' l h1 h2 => c1 d vfs H' D' (r1.lg l) l.grow h1 h2
      | stuck => rw [w] at c1; exact c1
    · rw [if_neg hn] at c1; exact c1.elim
/-- the call of such a def -/
theorem pcallG {k : Nat} {f : Addr} {fd : FuncData} {ps : List Str} {sp : Sp} {W : WX} {x : Str} {p : Pos} {es : List Expr} {tA : TA} (tk : Takes X W) (hG : gd → X.A.guards = some []) (F : FnG gd X.prog X.w X.K X.mg X.base k f fd ps sp) (hr : Room k X.A)
    (hm : X.mg x = some (.ref f)) (hk : PySem.W.keepIn X.K (.ref f) = true) (hb : Binds X.K fd ps []) (ha : PA X (e :: es) tA) (hg : Gl X x) (hdb : (x == ("__debug__" : Str)) = false) (he : starEach (e :: es) X.env = (false, eval e X.env) :: starEach es X.env)
    (hpl : (backTo pos (starEach es X.env)).any (·.1) = false) : PE X (.Call (.Name x p) (e :: es) [] pos) (tCallS sp (WE W) tA) := ⟨fun pins s σ H Q I h => by
  refine wpAny_Call_Name_kw (ld_glob I hg hm ?_ hdb)
  have args := ha.run pos pins s σ H _ I h
  refine PySem.W.callWith_K (h₀ := X.base) I.ok.mod.kin hk ?_ he hpl
  refine thn args fun us s1 z => ?_
  obtain ⟨vs, H1, I1, rv, q⟩ := z
  have hlen : us.length = ps.length := rv.length ▸ F.len _ _ _ _ q
  have hbnd := hb s1 us I1.kIn (by simpa using hlen)
  rw [List.append_nil] at hbnd
  refine ⟨I1.kIn, wpAny_call (codeAny_mono (F.run X.A X.stack s1 H1 _ us vs Q (WE W σ) hG hr I1.env0 hbnd rv q) fun r s2 hq => ?_)⟩
  match r, hq with
  | .error ex, hq => exact passAt tk σ pins H1 s1 ex s2 I1 hq
  | .ok (.ret u), hq => exact I1.after hq
  | .ok .next, hq => exact hq.elim
  | .ok .brk, hq => exact hq.elim
  | .ok .cont, hq => exact hq.elim⟩
theorem dcall {k : Nat} {f : Addr} {fd : FuncData} {ps : List Str} {n : Nat} {fn : List PyData → Out Unit} {x : Str} {p : Pos} {es : List Expr} (tk : Takes X P.W) (hG : gd → X.A.guards = some []) (F : FnG gd X.prog X.w X.K X.mg X.base k f fd ps (spP P.K n fn)) (hr : Room k X.A)
    (hm : X.mg x = some (.ref f)) (hk : PySem.W.keepIn X.K (.ref f) = true) (hb : Binds X.K fd ps []) (ha : DA X P (e :: es) Φ) (hg : Gl X x := by rfl) (hdb : (x == ("__debug__" : Str)) = false := by decide) (he : starEach (e :: es) X.env = (false, eval e X.env) :: starEach es X.env := by rfl)
    (hpl : (backTo pos (starEach es X.env)).any (·.1) = false := by rfl) : DE X P (.Call (.Name x p) (e :: es) [] pos) (fCall n fn Φ) :=
  PE.imp (pcallG tk hG F hr hm hk hb ha hg hdb he hpl) fun σ H Q ⟨D, ρ, g, r, c⟩ =>
    tDA_bind r c fun ys g1 vs H1 D1 _ r1 gr vr c1 => call_of r1 vr c1
/-- built-in functions and types by name -/
theorem dcb {id : String} {x : Str} {p : Pos} {es : List Expr} {r : List V → Hp → VK → Prop} {F : List SV → Option SV} (hc : CallR X (.builtin id) r) (ok : CrOk P.K r F) (hm : X.mg x = none) (hv : bootBuiltins x = some (.builtin id)) (ha : DA X P (e :: es) Φ)
    (hg : Gl X x := by rfl) (hn : x ≠ "__name__" := by decide) (hdb : (x == ("__debug__" : Str)) = false := by decide) (he : starEach (e :: es) X.env = (false, eval e X.env) :: starEach es X.env := by rfl)
    (hpl : (backTo pos (starEach es X.env)).any (·.1) = false := by rfl) : DE X P (.Call (.Name x p) (e :: es) [] pos) (fCB F Φ) :=
  PE.imp (pe_callB hc hg hm hv ha hn hdb he hpl) fun _ _ _ => tCB_of ok
theorem dct {T : String} {x : Str} {p : Pos} {es : List Expr} {r : List V → Hp → VK → Prop} {F : List SV → Option SV} (hc : CallR X (.type T) r) (ok : CrOk P.K r F) (hm : X.mg x = none) (hv : bootBuiltins x = some (.type T)) (ha : DA X P (e :: es) Φ)
    (hg : Gl X x := by rfl) (hn : x ≠ "__name__" := by decide) (hdb : (x == ("__debug__" : Str)) = false := by decide) (he : starEach (e :: es) X.env = (false, eval e X.env) :: starEach es X.env := by rfl)
    (hpl : (backTo pos (starEach es X.env)).any (·.1) = false := by rfl) : DE X P (.Call (.Name x p) (e :: es) [] pos) (fCB F Φ) :=
  PE.imp (pe_callTy hc hg hm hv ha hn hdb he hpl) fun _ _ _ => tCB_of ok

/-! ### the def itself -/
def env0 (N : List Str) (ds : List PyData) : Env := ds.map (fun x => some (.d x)) ++ List.replicate (N.length - ds.length) none
def SOut.fin (o : SOut γ) : Out γ := match o with
  | .ret y g => .ok y g
  | .next _ g => .ok (.d .none) g
  | .exc C fs _ g => .exc C fs g
  | _ => .stuck
def runP (N : List Str) (ψ : SFn Unit) (ds : List PyData) : Out Unit := (ψ (env0 N ds) ()).fin
theorem start_get {N : List Str} {vs : List V} {i : Nat} {v : V} (h : vs[i]? = some v) : (L2.start N vs)[i]? = some (some v) := by
  unfold L2.start
  have hi := (List.getElem?_eq_some_iff.mp h).1
  rw [List.getElem?_append_left (by simpa using hi), List.getElem?_map, h]
  rfl
theorem env0_get {N : List Str} {ds : List PyData} {i : Nat} {y : SV} (h : (env0 N ds)[i]? = some (some y)) : ∃ x, y = .d x ∧ ds[i]? = some x := by
  unfold env0 at h
  by_cases hi : i < ds.length
  · rw [List.getElem?_append_left (by simpa using hi), List.getElem?_map] at h
    have e : ds[i]? = some ds[i] := by simp [hi]
    rw [e] at h
    cases h
    exact ⟨_, rfl, e⟩
  · rw [List.getElem?_append_right (by simpa using hi), List.getElem?_replicate] at h
    split at h
    · cases h
    · cases h
theorem rep0 {K : PySem.W.Frag} {N : List Str} {vs : List V} {ds : List PyData} {H D : Hp} {W : WX} (s : Sub D H) (h : DpAll K D vs ds) : Rep (γ := Unit) ⟨K, rs0, H, D, W⟩ (L2.start N vs) H D (env0 N ds) () := by
  refine ⟨.refl, s, fun _ z => z.elim, ?_, fun i y e => ?_, fun i xs a e => ?_, fun i xs e => ?_, fun i j a b xs ys _ e => ?_, fun _ z => z.elim, trivial⟩
  · unfold env0 L2.start
    simp [DpAll.len h]
  · obtain ⟨x, rfl, e1⟩ := env0_get e
    obtain ⟨v, e2, h2⟩ := DpAll.get h e1
    exact ⟨v, start_get e2, h2⟩
  · obtain ⟨x, z, _⟩ := env0_get e; cases z
  · obtain ⟨x, z, _⟩ := env0_get e; cases z
  · obtain ⟨x, z, _⟩ := env0_get e; cases z
theorem Grow.lg0 {H D H' D' : Hp} (a : Grow rs0.fp H D H' D') (s : Sub D' H') : LG H D H' D' := ⟨fun x o h => a.keep x o (fun z => z) h, a.dk, a.dn, s⟩
end
section
variable {gd : Prop} {P : Program} {w : World} {K : PySem.W.Frag} {mg : Str → Option Value} {base : Heap}
abbrev cxD (P : Program) (w : World) (K : PySem.W.Frag) (mg : Str → Option Value) (base : Heap) (N : List Str) (qual : Str) (st : Stmt) (f : Addr) (cdv : Value) (A : Around) (outer : List PySem.Env) (s : Shared) (H : Hp) (E : XK) : Cx := cxOf (L2.CX P w) P w K mg base N qual (defScope st) f cdv A outer s H E
/-- from a body to what the def keeps -/
theorem fnG_of {x qual : Str} {st : Stmt} {f : Addr} {fd : FuncData} {N ps : List Str} {k : Nat} {sp : Sp} (F : Fun K x qual st f fd) (S : FnScope N ps (defScope st)) (len : ∀ vs H Q E, sp vs H Q E → vs.length = ps.length)
    (body : ∀ (cdv : Value) (A : Around) (outer : List PySem.Env) (s : Shared) (H : Hp) (vs : List V) (Q : VK) (E : XK), (gd → A.guards = some []) → Room k (cxD P w K mg base N qual st f cdv A outer s H E).A → sp vs H Q E →
      ∃ t, PSs (cxD P w K mg base N qual st f cdv A outer s H E) (defBody st) t ∧ t { nx := fun _ H' => Q .non H', rt := Q } (L2.start N vs) H) : FnG gd P w K mg base (k + 1) f fd ps sp := by
  obtain ⟨oc, od, kV, doc, pm, an, cdv, ct, osl, rfl, lk, hcd⟩ := F.ex
  constructor
  · exact len
  · intro A outer s H args us vs Q E hG hr e0 hb rv hs
    have inK : K.In s.heap := e0.mod.kin.keeps (fun b o q => (e0.bs b o q).1)
    have noLim : s.heap.NoLimit := e0.mod.nolimit.keeps (fun b o q => (e0.bs b o q).1)
    refine codeAny_call_function hr.depth (inK _ _ lk) rfl S.co S.gen rfl (PySem.W.codeRec_of inK hcd) (hb _ _ _ _ ?_)
    refine wpAny_newFunctionEnv_cells S.kind (fun y hy => ?_) fun env q s1 hin => ?_
    · have hp : y.1 ∈ ps := (List.of_mem_zip (show (y.1, y.2) ∈ ps.zip us from hy)).1
      exact (S.par y.1 hp).elim .inl fun z => .inr ⟨z, PySem.W.cellsFrom_some _ _ _ (.inl z)⟩
    · cases q
      refine ⟨noLim.keeps hin.toInCall.keep, codeAny_func ?_⟩
      obtain ⟨t, ht, hq⟩ := body cdv A outer s H vs Q E hG (hr.deeper _) hs
      have inv := inv_start (CX := L2.CX P w) (E := E) S hr.hd e0 (len _ _ _ _ hs) rv hin
      refine wpAny_mono (ht.run [] s1 _ H _ inv hq) (fun fl s2 z => ?_) fun ex s2 z => z
      match fl, z with
      | .ret u, ⟨v, σ', H', J, r1, r2⟩ => exact ⟨v, H', J.os, J.bare, J.base, J.hok, r1, r2⟩
      | .next, ⟨σ', H', J, r2⟩ => exact ⟨V.non, H', J.os, J.bare, J.base, J.hok, rfl, r2⟩
      | .brk, ⟨_, _, _, z⟩ => exact z.elim
      | .cont, ⟨_, _, _, z⟩ => exact z.elim
/-- THE RULE for a def without a resource -/
theorem fnP {x qual : Str} {st : Stmt} {f : Addr} {fd : FuncData} {N ps : List Str} {k : Nat} {ψ : SFn Unit} (F : Fun K x qual st f fd) (S : FnScope N ps (defScope st))
    (hbody : ∀ (cdv : Value) (A : Around) (outer : List PySem.Env) (s : Shared) (H D : Hp) (E : XK), Room k (cxD P w K mg base N qual st f cdv A outer s H E).A → Takes (cxD P w K mg base N qual st f cdv A outer s H E) (fun cls d _ H => E cls d H) →
      PassesOwn (model P w) (cxD P w K mg base N qual st f cdv A outer s H E).A (cxD P w K mg base N qual st f cdv A outer s H E).env (cxD P w K mg base N qual st f cdv A outer s H E).xe → (gd → (cxD P w K mg base N qual st f cdv A outer s H E).A.guards = some []) →
      DSs (cxD P w K mg base N qual st f cdv A outer s H E) ⟨K, rs0, H, D, fun cls d _ H => E cls d H⟩ (defBody st) ψ) : FnG gd P w K mg base (k + 1) f fd ps (spP K ps.length (runP N ψ)) := by
  refine fnG_of F S (fun vs H Q E h => h.1) fun cdv A outer s H vs Q E hG hr h => ?_
  obtain ⟨hl, D, ds, sd, hd, q⟩ := h
  refine ⟨_, hbody cdv A outer s H D E hr (takes_of rfl rfl rfl rfl) (passes_of rfl) hG, D, env0 N ds, (), rep0 sd hd, ?_⟩
  unfold runP at q
  cases o : ψ (env0 N ds) () with
  | next ρ' g' =>
    rw [o] at q
    exact fun σ' H' D' r' s' => q _ H' D' (Grow.lg0 r'.grow r'.sub) Dp.non
  | ret y g' =>
    rw [o] at q
    exact fun v H' D' gr s' _ _ vr => q v H' D' (Grow.lg0 gr s') vr
  | exc C fs ρ' g' =>
    rw [o] at q
    exact fun σ' d vfs H' D' r' s' h1 h2 => q d vfs H' D' (Grow.lg0 r'.grow r'.sub) h1 h2
  | brk ρ' g' => rw [o] at q; exact q.elim
  | cont ρ' g' => rw [o] at q; exact q.elim
  | stuck => rw [o] at q; exact q.elim
/-- a nicer function -/
theorem FnG.eqf {f : Addr} {fd : FuncData} {ps : List Str} {k n : Nat} {fn fn' : List PyData → Out Unit} (h : FnG gd P w K mg base k f fd ps (spP K n fn)) (e : ∀ ds, ds.length = n → fn ds = fn' ds) : FnG gd P w K mg base k f fd ps (spP K n fn') :=
  h.imp fun vs H Q E ⟨hl, D, ds, s, hd, q⟩ => ⟨hl, D, ds, s, hd, by rw [e ds (by rw [← DpAll.len hd]; exact hl)]; exact q⟩
end
end Dn

set_option Elab.async false
set_option linter.all false
set_option autoImplicit false
set_option maxRecDepth 100000
set_option maxHeartbeats 4000000
namespace Dn
open PySem PySem.Spec PyProof.Rows L2
section
variable {γ : Type} {X : Cx} {P : Pm γ} {σ : L2.St} {H D H1 D1 H2 D2 H' D' : Hp} {ρ : Env} {g g1 g2 : γ} {e a b c : Expr} {φ ψ τ : Fn γ} {Φ Ψ : FnA γ} {t : TE} {pos : Pos} {Q : VK} {K : PySem.W.Frag}

theorem sz5 {n : Nat} (h : n ≤ 100000) : n ≤ sizeLine := Nat.le_trans h (by decide)
/-- a list of its own as an operand -/
def ownL : SV → Option (List PyData)
  | .l xs => some xs
  | .b xs => some xs
  | _ => none
theorem ar_own {rs : Rs γ} {v : V} {y : SV} {xs : List PyData} (h : AR K rs H D v y) (e : ownL y = some xs) : LstAt K rs H D v xs := by
  cases y with
  | l ys => cases e; exact h
  | b ys => cases e; exact h
  | d _ => cases e
  | h => cases e
/-- data as it is now -/
def toD : SV → Option PyData
  | .d x => some x
  | .l xs => some (.list xs)
  | .b xs => some (.list xs)
  | .h => none
theorem ar_dp {rs : Rs γ} {v : V} {y : SV} {x : PyData} (s : Sub D H) (h : AR K rs H D v y) (e : toD y = some x) : Dp K H v x := by
  have key : ∀ xs, LstAt K rs H D v xs → Dp K H v (.list xs) := fun xs ⟨a, vs, e, h1, h2, _, h3⟩ => by subst e; exact .lst (SqL.of h1) (DpAll.up s _ _ h3)
  cases y with
  | d x => cases e; exact Dp.up s _ _ h
  | l xs => cases e; exact key xs h
  | b xs => cases e; exact key xs h
  | h => cases e
/-- a value that needs no new object -/
theorem vr_d {rs : Rs γ} {v : V} {x : PyData} (h : Dp K D v x) : VR K rs H H D v (.d x) := h
theorem vr_new {rs : Rs γ} {p : Addr} {vs : List V} {xs : List PyData} (s : Sub D H) (hp : H p = none) (nf : ¬ rs.fp p) (h : DpAll K D vs xs) : VR K rs H (upd H p (.lst vs)) D (.ref p) (.l xs) := by
  have hd : D p = none := by
    cases q : D p with
    | none => rfl
    | some u => rw [s p u q] at hp; cases hp
  exact ⟨⟨p, vs, rfl, upd_same, hd, nf, h⟩, fun a e => by cases e; exact hp⟩

/-! ### ints -/
def I2 (f : Int → Int → Option PyData) : SV → SV → Option SV := fun x y => match x, y with
  | .d (.int i), .d (.int j) => (f i j).map .d
  | _, _ => none
theorem I2_inv {f : Int → Int → Option PyData} {x y z : SV} (h : I2 f x y = some z) : ∃ i j d, x = .d (.int i) ∧ y = .d (.int j) ∧ f i j = some d ∧ z = .d d := by
  unfold I2 at h
  split at h
  · rename_i i j
    cases q : f i j with
    | none => rw [q] at h; cases h
    | some d => rw [q] at h; cases h; exact ⟨i, j, d, rfl, rfl, q, rfl⟩
  · cases h
/-- an operation on two ints that gives a plain value -/
theorem ok_I {C : Int → Int → Prop} {gV : Int → Int → V} {f : Int → Int → Option PyData} (hf : ∀ i j d, f i j = some d → C i j ∧ ∀ K D, Dp K D (gV i j) d) : OpOk K (rI C gV) (I2 f) := fun {γ} rs H D vx vy x y z Q s rd hx hy hz q => by
  obtain ⟨i, j, d, rfl, rfl, hd, rfl⟩ := I2_inv hz
  cases hx
  cases hy
  obtain ⟨c, dp⟩ := hf i j d hd
  exact ⟨i, j, rfl, rfl, c, q _ H D (.refl s) (dp _ _)⟩
theorem ok_I0 {gV : Int → Int → V} {f : Int → Int → Option PyData} (hf : ∀ i j d, f i j = some d → ∀ K D, Dp K D (gV i j) d) : OpOk K (rI0 gV) (I2 f) := fun {γ} rs H D vx vy x y z Q s rd hx hy hz q => by
  obtain ⟨i, j, d, rfl, rfl, hd, rfl⟩ := I2_inv hz
  cases hx
  cases hy
  exact ⟨i, j, rfl, rfl, q _ H D (.refl s) (hf i j d hd _ _)⟩
def oSub : SV → SV → Option SV := I2 fun i j => some (.int (i - j))
def oLt : SV → SV → Option SV := I2 fun i j => some (.bool (decide (i < j)))
def oLe : SV → SV → Option SV := I2 fun i j => some (.bool (decide (i ≤ j)))
def oGt : SV → SV → Option SV := I2 fun i j => some (.bool (decide (j < i)))
def oGe : SV → SV → Option SV := I2 fun i j => some (.bool (decide (j ≤ i)))
def oMod : SV → SV → Option SV := I2 fun i j => if 0 < j then some (.int (i % j)) else none
def oAnd : SV → SV → Option SV := I2 fun i j => some (.int (Builtin.bitAnd i j))
theorem kSub : OpOk K (rI0 fun i j => .int (i - j)) oSub := ok_I0 fun i j d h _ _ => by cases h; exact .int _
theorem kLt : OpOk K (rI0 fun i j => .bl (decide (i < j))) oLt := ok_I0 fun i j d h _ _ => by cases h; exact .bl _
theorem kLe : OpOk K (rI0 fun i j => .bl (decide (i ≤ j))) oLe := ok_I0 fun i j d h _ _ => by cases h; exact .bl _
theorem kGt : OpOk K (rI0 fun i j => .bl (decide (j < i))) oGt := ok_I0 fun i j d h _ _ => by cases h; exact .bl _
theorem kGe : OpOk K (rI0 fun i j => .bl (decide (j ≤ i))) oGe := ok_I0 fun i j d h _ _ => by cases h; exact .bl _
theorem kAnd : OpOk K (rI0 fun i j => .int (Builtin.bitAnd i j)) oAnd := ok_I0 fun i j d h _ _ => by cases h; exact .int _
theorem kMod : OpOk K (rI (fun _ j => 0 < j) fun i j => .int (i % j)) oMod := ok_I fun i j d h => by
  by_cases c : 0 < j
  · rw [if_pos c] at h; cases h; exact ⟨c, fun _ _ => .int _⟩
  · rw [if_neg c] at h; cases h

/-- // of ints of any size: the divisor below 2 ^ 9000 -/
def CDivA (i j : Int) : Prop := j ≠ 0 ∧ j.natAbs.log2 < 9000
theorem op_fdivA : OpR X (binaryOp .FloorDiv) (rI CDivA fun i j => .int (i.fdiv j)) := opI fun i j _ _ _ _ _ hc q => floordiv_int hc.1 q (.inl (PyProof.noPylong_of_log2 hc.2))
def oMul : SV → SV → Option SV := I2 fun i j => if i.natAbs.log2 + j.natAbs.log2 < 1000000 then some (.int (i * j)) else none
def oDiv : SV → SV → Option SV := I2 fun i j => if j ≠ 0 ∧ j.natAbs.log2 < 9000 then some (.int (i.fdiv j)) else none
theorem kMul : OpOk K (rI CMulW fun i j => .int (i * j)) oMul := ok_I fun i j d h => by
  by_cases c : i.natAbs.log2 + j.natAbs.log2 < 1000000
  · rw [if_pos c] at h; cases h; exact ⟨c, fun _ _ => .int _⟩
  · rw [if_neg c] at h; cases h
theorem kDiv : OpOk K (rI CDivA fun i j => .int (i.fdiv j)) oDiv := ok_I fun i j d h => by
  by_cases c : j ≠ 0 ∧ j.natAbs.log2 < 9000
  · rw [if_pos c] at h; cases h; exact ⟨c, fun _ _ => .int _⟩
  · rw [if_neg c] at h; cases h
def oNeg : SV → Option SV := fun x => match x with
  | .d (.int i) => some (.d (.int (-i)))
  | _ => none
theorem kNeg : UnOk K (rU fun i => .int (-i)) oNeg := fun {γ} rs H D vx x z Q s rd hx hz q => by
  unfold oNeg at hz
  split at hz
  · rename_i i
    cases hz
    cases hx
    exact ⟨i, rfl, q _ H D (.refl s) (Dp.int _)⟩
  · cases hz

/-! ### + -/
def rAdd (K : PySem.W.Frag) : R2 := fun x y H Q => ((∃ i j, x = .int i ∧ y = .int j ∧ Q (.int (i + j)) H) ∨ (∃ i j, x = .str i ∧ y = .str j ∧ i.length + j.length ≤ sizeLine ∧ Q (.str (i ++ j)) H)) ∨ (rCatA K x y H Q ∨ rCat x y H Q)
theorem op_addAll : OpR X (binaryOp .Add) (rAdd X.K) := OpR.or (OpR.or op_add op_add_str) (OpR.or op_catA op_cat)
def oAdd : SV → SV → Option SV := fun x y => match x, y with
  | .d (.int i), .d (.int j) => some (.d (.int (i + j)))
  | .d (.str i), .d (.str j) => if i.length + j.length ≤ 100000 then some (.d (.str (i ++ j))) else none
  | .d (.tuple i), .d (.tuple j) => if i.length + j.length ≤ 100000 then some (.d (.tuple (i ++ j))) else none
  | x, y => match ownL x, ownL y with
    | some i, some j => if i.length + j.length ≤ 100000 then some (.l (i ++ j)) else none
    | _, _ => none
theorem nf_of {rs : Rs γ} {p : Addr} (h : H p = none) (rd : ∀ a, rs.fp a → H a ≠ none) : ¬ rs.fp p := fun z => rd p z h
theorem kAdd : OpOk K (rAdd K) oAdd := fun {γ} rs H D vx vy x y z Q s rd hx hy hz q => by
  unfold oAdd at hz
  split at hz
  · cases hz; cases hx; cases hy
    exact .inl (.inl ⟨_, _, rfl, rfl, q _ H D (.refl s) (Dp.int _)⟩)
  · rename_i i j
    by_cases hl : i.length + j.length ≤ 100000
    · rw [if_pos hl] at hz; cases hz; cases hx; cases hy
      exact .inl (.inr ⟨_, _, rfl, rfl, sz5 hl, q _ H D (.refl s) (Dp.str _)⟩)
    · rw [if_neg hl] at hz; cases hz
  · rename_i i j
    by_cases hl : i.length + j.length ≤ 100000
    · rw [if_pos hl] at hz; cases hz
      cases hx with
      | tup h1 d1 =>
        cases hy with
        | tup h2 d2 =>
          rename_i a us b ws
          have l1 := DpAll.len d1
          have l2 := DpAll.len d2
          refine .inr (.inl ⟨a, b, us, ws, rfl, rfl, Sub.st s h1, Sub.st s h2, sz5 (by omega), fun e => ?_, fun _ e => ?_, fun _ _ p hp => ?_⟩)
          · subst e
            have : i = [] := List.eq_nil_of_length_eq_zero (by simpa using l1.symm)
            subst this
            exact q _ H D (.refl s) (Dp.tup h2 d2)
          · subst e
            have : j = [] := List.eq_nil_of_length_eq_zero (by simpa using l2.symm)
            subst this
            rw [List.append_nil] at q
            exact q _ H D (.refl s) (Dp.tup h1 d1)
          · have l := LG.newD (o := .tup (us ++ ws)) s hp
            exact q _ _ _ l (Dp.tup (SqT.of upd_same) (DpAll.up l.dk _ _ (DpAll.app d1 d2)))
    · rw [if_neg hl] at hz; cases hz
  · split at hz
    · rename_i i j e1 e2
      by_cases hl : i.length + j.length ≤ 100000
      · rw [if_pos hl] at hz; cases hz
        obtain ⟨a, us, rfl, k1, _, _, k4⟩ := ar_own hx e1
        obtain ⟨b, ws, rfl, m1, _, _, m4⟩ := ar_own hy e2
        have l1 := DpAll.len k4
        have l2 := DpAll.len m4
        exact .inr (.inr ⟨a, b, us, ws, rfl, rfl, k1, m1, sz5 (by omega), fun p hp => q _ _ D (LG.new s hp) (vr_new s hp (nf_of hp rd) (DpAll.app k4 m4))⟩)
      · rw [if_neg hl] at hz; cases hz
    · cases hz
/-- [x] * n -/
def oRep : SV → SV → Option SV := fun x y => match x, y with
  | x, .d (.int k) => (match ownL x with
    | some xs => if k ≤ 100000 ∧ -100000 ≤ k ∧ xs.length * k.toNat ≤ 100000 then some (.l (List.replicate k.toNat xs).flatten) else none
    | none => none)
  | _, _ => none
theorem DpAll.rep {vs : List V} {ds : List PyData} (h : DpAll K D vs ds) : ∀ n : Nat, DpAll K D (List.replicate n vs).flatten (List.replicate n ds).flatten
  | 0 => .nil
  | n + 1 => by
    rw [List.replicate_succ, List.replicate_succ, List.flatten_cons, List.flatten_cons]
    exact DpAll.app h (DpAll.rep h n)
theorem kRep : OpOk K rRep oRep := fun {γ} rs H D vx vy x y z Q s rd hx hy hz q => by
  unfold oRep at hz
  split at hz
  · rename_i k
    split at hz
    · rename_i xs e1
      by_cases hl : k ≤ 100000 ∧ -100000 ≤ k ∧ xs.length * k.toNat ≤ 100000
      · rw [if_pos hl] at hz; cases hz
        obtain ⟨a, us, rfl, k1, _, _, k4⟩ := ar_own hx e1
        cases hy
        have l1 := DpAll.len k4
        exact ⟨a, k, us, rfl, rfl, k1, by omega, by omega, by rw [l1]; exact sz5 hl.2.2, fun p hp => q _ _ D (LG.new s hp) (vr_new s hp (nf_of hp rd) (DpAll.rep k4 _))⟩
      · rw [if_neg hl] at hz; cases hz
    · cases hz
  · cases hz

/-! ### ==, != -/
def oEq : SV → SV → Option SV := fun x y => match toD x, toD y with
  | some a, some b => if SeqAt.shaped a = true ∧ SeqAt.shaped b = true then some (.d (.bool (PyData.eqv a b))) else none
  | _, _ => none
def oNe : SV → SV → Option SV := fun x y => match toD x, toD y with
  | some a, some b => if SeqAt.shaped a = true ∧ SeqAt.shaped b = true then some (.d (.bool (!PyData.eqv a b))) else none
  | _, _ => none
theorem kEq : OpOk K (rEqD K) oEq := fun {γ} rs H D vx vy x y z Q s rd hx hy hz q => by
  unfold oEq at hz
  split at hz
  · rename_i a b e1 e2
    by_cases hl : SeqAt.shaped a = true ∧ SeqAt.shaped b = true
    · rw [if_pos hl] at hz; cases hz
      exact ⟨a, b, ar_dp s hx e1, ar_dp s hy e2, hl.1, hl.2, q _ H D (.refl s) (Dp.bl _)⟩
    · rw [if_neg hl] at hz; cases hz
  · cases hz
theorem kNe : OpOk K (rNeD K) oNe := fun {γ} rs H D vx vy x y z Q s rd hx hy hz q => by
  unfold oNe at hz
  split at hz
  · rename_i a b e1 e2
    by_cases hl : SeqAt.shaped a = true ∧ SeqAt.shaped b = true
    · rw [if_pos hl] at hz; cases hz
      exact ⟨a, b, ar_dp s hx e1, ar_dp s hy e2, hl.1, hl.2, q _ H D (.refl s) (Dp.bl _)⟩
    · rw [if_neg hl] at hz; cases hz
  · cases hz
theorem hu64 {k : Nat} (hr : Room k X.A) : X.A.units + 64 < cLine := by have := hr.un; omega
theorem hu65 {k : Nat} (hr : Room k X.A) : X.A.units + 65 < cLine := by have := hr.un; omega
/-- is True, is not True .. of bools -/
def oIs : SV → SV → Option SV := fun x y => match x, y with
  | .d (.bool a), .d (.bool b) => some (.d (.bool (decide (a = b))))
  | _, _ => none
def oIsNot : SV → SV → Option SV := fun x y => match x, y with
  | .d (.bool a), .d (.bool b) => some (.d (.bool (!decide (a = b))))
  | _, _ => none
theorem kIs : OpOk K rIsB oIs := fun {γ} rs H D vx vy x y z Q s rd hx hy hz q => by
  unfold oIs at hz
  split at hz
  · cases hz; cases hx; cases hy
    exact ⟨_, _, rfl, rfl, q _ H D (.refl s) (Dp.bl _)⟩
  · cases hz
theorem kIsNot : OpOk K rNotB oIsNot := fun {γ} rs H D vx vy x y z Q s rd hx hy hz q => by
  unfold oIsNot at hz
  split at hz
  · cases hz; cases hx; cases hy
    exact ⟨_, _, rfl, rfl, q _ H D (.refl s) (Dp.bl _)⟩
  · cases hz

/-! ### items -/
def oIx : SV → SV → Option SV := fun x y => match x, y with
  | .d (.str z), .d (.int i) => if z.length ≤ 100000 then (atI z.cps.toList i).map fun c => .d (.str ⟨#[c]⟩) else none
  | x, .d (.int i) => (match seqOf x with
    | some xs => (atI xs i).map .d
    | none => none)
  | _, _ => none
theorem atI_get {vs : List V} {ds : List PyData} (h : DpAll K D vs ds) {i : Int} {d : PyData} (e : atI ds i = some d) : ∃ v, atI vs i = some v ∧ Dp K D v d := by
  unfold atI at *
  rw [DpAll.len h]
  cases q : ixN ds.length i with
  | none => rw [q] at e; cases e
  | some j =>
    rw [q] at e
    exact DpAll.get h e
theorem kIx : OpOk K (rIx K) oIx := fun {γ} rs H D vx vy x y z Q s rd hx hy hz q => by
  unfold oIx at hz
  split at hz
  · rename_i zz i
    by_cases hl : zz.length ≤ 100000
    · rw [if_pos hl] at hz
      cases w : atI zz.cps.toList i with
      | none => rw [w] at hz; cases hz
      | some c =>
        rw [w] at hz; cases hz; cases hx; cases hy
        exact .inr (.inr ⟨zz, i, c, rfl, rfl, sz5 hl, w, q _ H D (.refl s) (Dp.str _)⟩)
    · rw [if_neg hl] at hz; cases hz
  · rename_i i _
    split at hz
    · rename_i xs e
      cases w : atI xs i with
      | none => rw [w] at hz; cases hz
      | some d =>
        rw [w] at hz; cases hz; cases hy
        have key : LstAt K rs H D vx xs → rIx K vx (.int i) H Q := fun ⟨a, vs, e, h1, h2, _, h3⟩ => by
          subst e
          obtain ⟨v, e1, h4⟩ := atI_get h3 w
          exact .inl ⟨a, vs, i, v, rfl, rfl, SqL.of h1, e1, q _ H D (.refl s) h4⟩
        cases x with
        | l ys => cases e; exact key hx
        | b ys => cases e; exact key hx
        | h => cases e
        | d u =>
          cases u with
          | list ys =>
            cases e
            cases hx with
            | lst h1 h2 =>
              obtain ⟨v, e1, h4⟩ := atI_get h2 w
              exact .inl ⟨_, _, i, v, rfl, rfl, Sub.sl s h1, e1, q _ H D (.refl s) h4⟩
          | tuple ys =>
            cases e
            cases hx with
            | tup h1 h2 =>
              obtain ⟨v, e1, h4⟩ := atI_get h2 w
              exact .inr (.inl ⟨_, _, i, v, rfl, rfl, Sub.st s h1, e1, q _ H D (.refl s) h4⟩)
          | _ => cases e
    · cases hz
  · cases hz
end
end Dn

set_option Elab.async false
set_option linter.all false
set_option autoImplicit false
set_option maxRecDepth 100000
set_option maxHeartbeats 4000000
namespace Dn
open PySem PySem.Spec PyProof.Rows L2
section
variable {γ : Type} {X : Cx} {P : Pm γ} {σ : L2.St} {H D H1 D1 H2 D2 H' D' : Hp} {ρ : Env} {g g1 g2 : γ} {e a b c : Expr} {φ ψ τ : Fn γ} {Φ Ψ : FnA γ} {t : TE} {pos : Pos} {Q : VK} {K : PySem.W.Frag}

/-! ### isinstance -/
def tyName : PyData → String
  | .none => "NoneType"
  | .bool _ => "bool"
  | .int _ => "int"
  | .str _ => "str"
  | .list _ => "list"
  | .tuple _ => "tuple"
  | .dict _ => "dict"
theorem dp_ty {v : V} : ∀ {x : PyData}, Dp K H v x → TyX K H v (.type (tyName x))
  | .none, h => by cases h; exact .base .non
  | .bool _, h => by cases h; exact .base (.bl _)
  | .int _, h => by cases h; exact .base (.int _)
  | .str _, h => by cases h; exact .base (.str _)
  | .list _, h => by
    cases h with
    | lst h1 _ =>
      rcases h1 with (h | ⟨o, h⟩) | ⟨o, its, n, hk, hc, _⟩
      · exact .base (.lst h)
      · exact .base (.frz h)
      · exact .kList hk hc
  | .tuple _, h => by
    cases h with
    | tup h1 _ =>
      rcases h1 with (h | ⟨o, h⟩) | ⟨o, its, n, hk, hc, _⟩
      · exact .base (.tup h)
      · exact .fTuple h
      · exact .kTuple hk hc
  | .dict _, h => by cases h
def isi (T : String) (d : PyData) : Option Bool := kitB (tyName d) T
def fIsi (T : String) (φ : Fn γ) : Fn γ := fun ρ g => (φ ρ g).bind fun y g1 => match toD y with
  | some d => (match isi T d with
    | some b => .ok (.d (.bool b)) g1
    | none => .stuck)
  | none => .stuck
theorem disi {T : String} {p p2 : Pos} {x : Str} (he : DE X P e φ) (hm : X.mg "isinstance" = none) (ht : X.mg x = none) (hv : bootBuiltins x = some (.type T)) (hK : X.K = P.K := by rfl) (hg : Gl X "isinstance" := by rfl) (hgt : Gl X x := by rfl) (hn : x ≠ "__name__" := by decide)
    (hd : (x == ("__debug__" : Str)) = false := by decide) (h2 : starEach [.Name x p2] X.env = (false, eval (.Name x p2) X.env) :: starEach [] X.env := by rfl) (h3 : starEach [e, .Name x p2] X.env = (false, eval e X.env) :: starEach [.Name x p2] X.env := by rfl)
    (hpl : (backTo pos (starEach [.Name x p2] X.env)).any (·.1) = false := by rfl) : DE X P (.Call (.Name "isinstance" p) [e, .Name x p2] [] pos) (fIsi T φ) :=
  PE.imp (pe_callB call_isi hg hm (by decide +kernel) (pa_cons he (pa_cons (pe_bltn (v := .ty T) hgt ht hv rfl hn hd) pa_nil h2) h3) (by decide) (by decide) h3 hpl) fun σ H Q ⟨D, ρ, g, r, c⟩ => by
    refine tD_bind r c fun y g1 v H1 D1 _ r1 gr vr c1 => ?_
    cases q : toD y with
    | none => simp only [q] at c1; exact c1.elim
    | some d =>
      simp only [q] at c1
      cases w : isi T d with
      | none => simp only [w] at c1; exact c1.elim
      | some b =>
        simp only [w] at c1
        have dp : Dp X.K H1 v d := by rw [hK]; exact ar_dp r1.sub vr.ar q
        exact ⟨v, .ty T, _, _, b, rfl, .ty T, dp_ty dp, kit_ty w, c1 _ _ _ r1 .refl (Dp.bl _)⟩

/-! ### built-in calls -/
def C1 (f : SV → Option SV) : List SV → Option SV := fun ys => match ys with
  | [y] => f y
  | _ => none
theorem C1_inv {f : SV → Option SV} {ys : List SV} {z : SV} (h : C1 f ys = some z) : ∃ y, ys = [y] ∧ f y = some z := by
  unfold C1 at h
  split at h
  · exact ⟨_, rfl, h⟩
  · cases h
theorem ARs.one {rs : Rs γ} {vs : List V} {y : SV} (h : ARs K rs H D vs [y]) : ∃ v, vs = [v] ∧ AR K rs H D v y := by
  cases h with
  | cons h t => cases t; exact ⟨_, rfl, h⟩
/-- a call with one argument, by values -/
theorem ok_C1 {r : List V → Hp → VK → Prop} {f : SV → Option SV} (h : ∀ {γ : Type} (rs : Rs γ) (H D : Hp) (v : V) (y z : SV) (Q : VK), Sub D H → (∀ a, rs.fp a → H a ≠ none) → AR K rs H D v y → f y = some z → (∀ v H' D', LG H D H' D' → VR K rs H H' D' v z → Q v H') → r [v] H Q) : CrOk K r (C1 f) :=
  fun {γ} rs H D vs ys z Q s rd hv hz q => by
    obtain ⟨y, rfl, e⟩ := C1_inv hz
    obtain ⟨v, rfl, ha⟩ := hv.one
    exact h rs H D v y z Q s rd ha e q
/-- what a sequence is, in the heap -/
theorem ar_seq {rs : Rs γ} {v : V} {y : SV} {xs : List PyData} (s : Sub D H) (h : AR K rs H D v y) (e : seqOf y = some xs) : ∃ a vs, v = .ref a ∧ (SqL K H a vs ∨ SqT K H a vs) ∧ DpAll K D vs xs := by
  have key : ∀ ys, LstAt K rs H D v ys → ys = xs → ∃ a vs, v = .ref a ∧ (SqL K H a vs ∨ SqT K H a vs) ∧ DpAll K D vs xs := fun ys ⟨a, vs, e1, h1, _, _, h3⟩ e2 => by
    subst e2; exact ⟨a, vs, e1, .inl (SqL.of h1), h3⟩
  cases y with
  | l ys => cases e; exact key _ h rfl
  | b ys => cases e; exact key _ h rfl
  | h => cases e
  | d u =>
    cases u with
    | list ys => cases e; cases h with | lst h1 h2 => exact ⟨_, _, rfl, .inl (Sub.sl s h1), h2⟩
    | tuple ys => cases e; cases h with | tup h1 h2 => exact ⟨_, _, rfl, .inr (Sub.st s h1), h2⟩
    | _ => cases e
/-- .. a list for sure -/
def lstOf : SV → Option (List PyData)
  | .d (.list xs) => some xs
  | .l xs => some xs
  | .b xs => some xs
  | _ => none
theorem ar_lst {rs : Rs γ} {v : V} {y : SV} {xs : List PyData} (s : Sub D H) (h : AR K rs H D v y) (e : lstOf y = some xs) : ∃ a vs, v = .ref a ∧ SqL K H a vs ∧ DpAll K D vs xs := by
  have key : ∀ ys, LstAt K rs H D v ys → ys = xs → ∃ a vs, v = .ref a ∧ SqL K H a vs ∧ DpAll K D vs xs := fun ys ⟨a, vs, e1, h1, _, _, h3⟩ e2 => by
    subst e2; exact ⟨a, vs, e1, SqL.of h1, h3⟩
  cases y with
  | l ys => cases e; exact key _ h rfl
  | b ys => cases e; exact key _ h rfl
  | h => cases e
  | d u =>
    cases u with
    | list ys => cases e; cases h with | lst h1 h2 => exact ⟨_, _, rfl, Sub.sl s h1, h2⟩
    | _ => cases e
def bLen : List SV → Option SV := C1 fun y => match y with
  | .d (.str z) => if z.length ≤ 100000 then some (.d (.int z.length)) else none
  | y => (seqOf y).map fun xs => .d (.int xs.length)
theorem kLen : CrOk K (fun xs H Q => ∃ x n, xs = [x] ∧ LenV K x H n ∧ Q (.int n) H) bLen := ok_C1 fun rs H D v y z Q s rd h hz q => by
  split at hz
  · rename_i zz
    by_cases hl : zz.length ≤ 100000
    · rw [if_pos hl] at hz; cases hz; cases h
      exact ⟨_, _, rfl, ⟨sz5 hl, rfl⟩, q _ H D (.refl s) (Dp.int _)⟩
    · rw [if_neg hl] at hz; cases hz
  · cases e : seqOf y with
    | none => rw [e] at hz; cases hz
    | some xs =>
      rw [e] at hz; cases hz
      obtain ⟨a, vs, rfl, h1, h2⟩ := ar_seq s h e
      refine ⟨_, vs.length, rfl, ?_, by rw [DpAll.len h2]; exact q _ H D (.refl s) (Dp.int _)⟩
      rcases h1 with h1 | h1
      · exact .inl ⟨vs, h1, rfl⟩
      · exact .inr ⟨vs, h1, rfl⟩
/-- bools of a list -/
def boolsOf : List PyData → Option (List Bool)
  | [] => some []
  | .bool b :: r => (boolsOf r).map (b :: ·)
  | _ :: _ => none
theorem boolsOf_eq : ∀ {xs : List PyData} {bs : List Bool}, boolsOf xs = some bs → xs = bs.map PyData.bool
  | [], _, h => by cases h; rfl
  | .bool b :: r, bs, h => by
    cases q : boolsOf r with
    | none => rw [boolsOf, q] at h; cases h
    | some l => rw [boolsOf, q] at h; cases h; rw [boolsOf_eq q]; rfl
  | .none :: _, _, h => by cases h
  | .int _ :: _, _, h => by cases h
  | .str _ :: _, _, h => by cases h
  | .list _ :: _, _, h => by cases h
  | .tuple _ :: _, _, h => by cases h
  | .dict _ :: _, _, h => by cases h
theorem boolsOf_map (bs : List Bool) : boolsOf (bs.map PyData.bool) = some bs := by
  induction bs with
  | nil => rfl
  | cons b r ih => rw [List.map_cons, boolsOf, ih]; rfl
def bAll : List SV → Option SV := C1 fun y => ((lstOf y).bind boolsOf).map fun bs => .d (.bool (bs.all id))
def bAny : List SV → Option SV := C1 fun y => ((lstOf y).bind boolsOf).map fun bs => .d (.bool (bs.any id))
theorem ar_bools {rs : Rs γ} {v : V} {y : SV} {bs : List Bool} (s : Sub D H) (h : AR K rs H D v y) (e : (lstOf y).bind boolsOf = some bs) : ∃ a, v = .ref a ∧ SqL K H a (bs.map V.bl) := by
  cases q : lstOf y with
  | none => rw [q] at e; cases e
  | some xs =>
    rw [q] at e
    obtain ⟨a, vs, rfl, h1, h2⟩ := ar_lst s h q
    have e' : boolsOf xs = some bs := e
    rw [boolsOf_eq e'] at h2
    rw [DpAll.bls h2] at h1
    exact ⟨a, rfl, h1⟩
theorem kAll : CrOk K (rAll K) bAll := ok_C1 fun rs H D v y z Q s rd h hz q => by
  cases e : (lstOf y).bind boolsOf with
  | none => rw [e] at hz; cases hz
  | some bs =>
    rw [e] at hz; cases hz
    obtain ⟨a, rfl, h1⟩ := ar_bools s h e
    exact ⟨a, bs, rfl, h1, q _ H D (.refl s) (Dp.bl _)⟩
theorem kAny : CrOk K (rAny K) bAny := ok_C1 fun rs H D v y z Q s rd h hz q => by
  cases e : (lstOf y).bind boolsOf with
  | none => rw [e] at hz; cases hz
  | some bs =>
    rw [e] at hz; cases hz
    obtain ⟨a, rfl, h1⟩ := ar_bools s h e
    exact ⟨a, bs, rfl, h1, q _ H D (.refl s) (Dp.bl _)⟩
/-- tuple(x), list(x) -/
def bTuple : List SV → Option SV := C1 fun y => (seqOf y).map fun xs => .d (.tuple xs)
def bList : List SV → Option SV := C1 fun y => (seqOf y).map fun xs => .l xs
theorem kTuple : CrOk K (fun xs H Q => ∃ p ys, xs = [.ref p] ∧ ((SqL K H p ys ∧ ∀ l, H l = none → Q (.ref l) (upd H l (.tup ys))) ∨ (SqT K H p ys ∧ Q (.ref p) H))) bTuple := ok_C1 fun rs H D v y z Q s rd h hz q => by
  cases e : seqOf y with
  | none => rw [e] at hz; cases hz
  | some xs =>
    rw [e] at hz; cases hz
    have mk : ∀ a vs, v = .ref a → SqL K H a vs → DpAll K D vs xs → ∃ p ys, [v] = [.ref p] ∧ ((SqL K H p ys ∧ ∀ l, H l = none → Q (.ref l) (upd H l (.tup ys))) ∨ (SqT K H p ys ∧ Q (.ref p) H)) := fun a vs e h1 h2 => by
      subst e
      refine ⟨a, vs, rfl, .inl ⟨h1, fun l hl => ?_⟩⟩
      have lg := LG.newD (o := .tup vs) s hl
      exact q _ _ _ lg (Dp.tup (SqT.of upd_same) (DpAll.up lg.dk _ _ h2))
    cases y with
    | l ys => cases e; obtain ⟨a, vs, e1, h1, _, _, h3⟩ := h; exact mk a vs e1 (SqL.of h1) h3
    | b ys => cases e; obtain ⟨a, vs, e1, h1, _, _, h3⟩ := h; exact mk a vs e1 (SqL.of h1) h3
    | h => cases e
    | d u =>
      cases u with
      | list ys => cases e; cases h with | lst h1 h2 => exact mk _ _ rfl (Sub.sl s h1) h2
      | tuple ys => cases e; cases h with | tup h1 h2 => exact ⟨_, _, rfl, .inr ⟨Sub.st s h1, q _ H D (.refl s) (Dp.tup h1 h2)⟩⟩
      | _ => cases e
theorem kList : CrOk K (fun xs H Q => ∃ p ys, xs = [.ref p] ∧ (SqL K H p ys ∨ SqT K H p ys) ∧ ∀ l, H l = none → Q (.ref l) (upd H l (.lst ys))) bList := ok_C1 fun rs H D v y z Q s rd h hz q => by
  cases e : seqOf y with
  | none => rw [e] at hz; cases hz
  | some xs =>
    rw [e] at hz; cases hz
    obtain ⟨a, vs, rfl, h1, h2⟩ := ar_seq s h e
    exact ⟨a, vs, rfl, h1, fun l hl => q _ _ D (LG.new s hl) (vr_new s hl (nf_of hl rd) h2)⟩
/-- int(x), abs(x) -/
def bInt : List SV → Option SV := C1 fun y => match y with
  | .d (.int i) => some (.d (.int i))
  | .d (.bool b) => some (.d (.int (if b then 1 else 0)))
  | _ => none
theorem kInt : CrOk K (fun xs H Q => (∃ i, xs = [.int i] ∧ Q (.int i) H) ∨ ∃ k, xs = [.bl k] ∧ Q (.int (if k then 1 else 0)) H) bInt := ok_C1 fun rs H D v y z Q s rd h hz q => by
  split at hz
  · cases hz; cases h; exact .inl ⟨_, rfl, q _ H D (.refl s) (Dp.int _)⟩
  · cases hz; cases h; exact .inr ⟨_, rfl, q _ H D (.refl s) (Dp.int _)⟩
  · cases hz
def bAbs : List SV → Option SV := C1 fun y => match y with
  | .d (.int i) => some (.d (.int (if i < 0 then -i else i)))
  | _ => none
theorem kAbs : CrOk K (fun xs H Q => ∃ i, xs = [.int i] ∧ Q (.int (if i < 0 then -i else i)) H) bAbs := ok_C1 fun rs H D v y z Q s rd h hz q => by
  split at hz
  · cases hz; cases h; exact ⟨_, rfl, q _ H D (.refl s) (Dp.int _)⟩
  · cases hz
/-- two ints -/
def C2 (f : Int → Int → Option SV) : List SV → Option SV := fun ys => match ys with
  | [.d (.int i), .d (.int j)] => f i j
  | _ => none
theorem C2_inv {f : Int → Int → Option SV} {rs : Rs γ} {vs : List V} {ys : List SV} {z : SV} (hv : ARs K rs H D vs ys) (h : C2 f ys = some z) : ∃ i j, vs = [.int i, .int j] ∧ f i j = some z := by
  unfold C2 at h
  split at h
  · cases hv with
    | cons h1 t => cases t with
      | cons h2 t => cases t; cases h1; cases h2; exact ⟨_, _, rfl, h⟩
  · cases h
def bMax : List SV → Option SV := C2 fun i j => some (.d (.int (if j > i then j else i)))
def bMin : List SV → Option SV := C2 fun i j => some (.d (.int (if j < i then j else i)))
def bDivmod : List SV → Option SV := C2 fun i j => if 0 < j ∧ j < 1073741824 then some (.d (.tuple [.int (i / j), .int (i % j)])) else none
def bGcd : List SV → Option SV := C2 fun i j => some (.d (.int (Nat.gcd i.natAbs j.natAbs : Nat)))
theorem kMax : CrOk K (fun xs H Q => ∃ i j, xs = [.int i, .int j] ∧ Q (.int (if j > i then j else i)) H) bMax := fun {γ} rs H D vs ys z Q s rd hv hz q => by
  obtain ⟨i, j, rfl, e⟩ := C2_inv hv hz
  cases e; exact ⟨i, j, rfl, q _ H D (.refl s) (Dp.int _)⟩
theorem kMin : CrOk K (fun xs H Q => ∃ i j, xs = [.int i, .int j] ∧ Q (.int (if j < i then j else i)) H) bMin := fun {γ} rs H D vs ys z Q s rd hv hz q => by
  obtain ⟨i, j, rfl, e⟩ := C2_inv hv hz
  cases e; exact ⟨i, j, rfl, q _ H D (.refl s) (Dp.int _)⟩
theorem kDivmod : CrOk K (fun xs H Q => ∃ i j, xs = [.int i, .int j] ∧ CDiv i j ∧ ∀ p, H p = none → Q (.ref p) (upd H p (.tup [.int (i / j), .int (i % j)]))) bDivmod := fun {γ} rs H D vs ys z Q s rd hv hz q => by
  obtain ⟨i, j, rfl, e⟩ := C2_inv hv hz
  by_cases hl : 0 < j ∧ j < 1073741824
  · rw [if_pos hl] at e; cases e
    refine ⟨i, j, rfl, hl, fun p hp => ?_⟩
    have l := LG.newD (o := .tup [.int (i / j), .int (i % j)]) s hp
    exact q _ _ _ l (Dp.tup (SqT.of upd_same) (.cons (.int _) (.cons (.int _) .nil)))
  · rw [if_neg hl] at e; cases e
theorem kGcd : CrOk K rGcd bGcd := fun {γ} rs H D vs ys z Q s rd hv hz q => by
  obtain ⟨i, j, rfl, e⟩ := C2_inv hv hz
  cases e; exact ⟨i, j, rfl, q _ H D (.refl s) (Dp.int _)⟩

/-! ### repr of data -/
mutual
theorem noDict : ∀ (d : PyData) (v : V), Dp K H v d → d.hasDict = false
  | .none, _, _ => by simp [PyData.hasDict]
  | .bool _, _, _ => by simp [PyData.hasDict]
  | .int _, _, _ => by simp [PyData.hasDict]
  | .str _, _, _ => by simp [PyData.hasDict]
  | .list ds, _, h => by
    cases h with
    | lst _ h2 => simp only [PyData.hasDict]; exact noDictAll ds _ h2
  | .tuple ds, _, h => by
    cases h with
    | tup _ h2 => simp only [PyData.hasDict]; exact noDictAll ds _ h2
  | .dict _, _, h => by cases h
theorem noDictAll : ∀ (ds : List PyData) (vs : List V), DpAll K H vs ds → PyData.hasDictAll ds = false
  | [], _, _ => by simp [PyData.hasDictAll]
  | d :: ds, _, h => by
    cases h with
    | cons h1 h2 => simp [PyData.hasDictAll, noDict d _ h1, noDictAll ds _ h2]
end
def rRepr (K : PySem.W.Frag) : List V → Hp → VK → Prop := fun vs H Q => ∃ v d, vs = [v] ∧ Dp K H v d ∧ d.showable = true ∧ d.depth ≤ 60 ∧ d.shown.length ≤ sizeLine ∧ Q (.str d.shown) H
theorem call_reprD (hG : X.A.guards = some []) (hu : X.A.units + 200 < cLine) : CallR X (.builtin "repr") (rRepr X.K) := by
  intro pins s σ H xs us Q I r h
  obtain ⟨v, d, rfl, hd, hs, hdep, hz, q⟩ := h
  obtain ⟨u, rfl, ru⟩ := vals1 r
  have fin : ∀ (t : Tok), EP X pins σ Q (.str d.shown t) { s with toks := s.toks + 1 } := fun t => ⟨.str d.shown, H, I.tok _, ⟨t, rfl⟩, q⟩
  cases d with
  | none => cases hd; cases ru; simp only [PyData.shown] at fin; exact PySem.P.repr_of_none (fin _)
  | bool b => cases hd; cases ru; simp only [PyData.shown] at fin; exact PySem.P.repr_of_bool (by cases b <;> exact fin _)
  | int i =>
    cases hd; obtain ⟨t, rfl⟩ := ru
    simp only [PyData.shown] at fin
    exact PySem.P.repr_of_int (by simpa [PyData.showable] using hs) (fin _)
  | str x =>
    cases hd
    obtain ⟨t, rfl⟩ := ru
    simp only [PyData.shown] at fin hz
    exact PySem.P.repr_of_str (fin _) hz
  | list ds =>
    obtain ⟨as, hrd⟩ := Dp.reads I _ _ _ hd ru
    have nd := noDict _ _ hd
    cases hd
    cases ru
    exact repr_of_reads' hrd hs (fun z => by rw [nd] at z; cases z) hG (by omega) (fun _ _ z => z) (fun h' u tk hk => ⟨.str _, H, I.kept (t' := tk) hk, ⟨u, rfl⟩, q⟩) hz
  | tuple ds =>
    obtain ⟨as, hrd⟩ := Dp.reads I _ _ _ hd ru
    have nd := noDict _ _ hd
    cases hd
    cases ru
    exact repr_of_reads' hrd hs (fun z => by rw [nd] at z; cases z) hG (by omega) (fun _ _ z => z) (fun h' u tk hk => ⟨.str _, H, I.kept (t' := tk) hk, ⟨u, rfl⟩, q⟩) hz
  | dict kvs => cases hd
def bRepr : List SV → Option SV := C1 fun y => match toD y with
  | some d => if d.showable = true ∧ d.depth ≤ 60 ∧ d.shown.length ≤ sizeLine then some (.d (.str d.shown)) else none
  | none => none
theorem kRepr : CrOk K (rRepr K) bRepr := ok_C1 fun rs H D v y z Q s rd h hz q => by
  split at hz
  · rename_i d e
    by_cases hl : d.showable = true ∧ d.depth ≤ 60 ∧ d.shown.length ≤ sizeLine
    · rw [if_pos hl] at hz; cases hz
      exact ⟨v, d, rfl, ar_dp s h e, hl.1, hl.2.1, hl.2.2, q _ H D (.refl s) (Dp.str _)⟩
    · rw [if_neg hl] at hz; cases hz
  · cases hz

/-! ### slices -/
/-- where a slice's ends lie -/
def fSl (F : SV → Option Int → Option Int → Option SV) (φ : Fn γ) (lo hi : Option (Fn γ)) : Fn γ := fun ρ g => (φ ρ g).bind fun x g1 => match lo, hi with
  | none, none => .of (F x none none) g1
  | some l, none => (l ρ g1).bind fun y g2 => (match y with
    | .d (.int i) => .of (F x (some i) none) g2
    | _ => .stuck)
  | none, some h => (h ρ g1).bind fun y g2 => (match y with
    | .d (.int i) => .of (F x none (some i)) g2
    | _ => .stuck)
  | some l, some h => (l ρ g1).bind fun y g2 => (match y with
    | .d (.int i) => (h ρ g2).bind fun z g3 => (match z with
      | .d (.int j) => .of (F x (some i) (some j)) g3
      | _ => .stuck)
    | _ => .stuck)
def SlOk (K : PySem.W.Frag) (r : V → Option Int → Option Int → Hp → VK → Prop) (F : SV → Option Int → Option Int → Option SV) : Prop := ∀ {γ : Type} (rs : Rs γ) (H D : Hp) (vx : V) (x z : SV) (lo hi : Option Int) (Q : VK), Sub D H → (∀ a, rs.fp a → H a ≠ none) → AR K rs H D vx x → F x lo hi = some z →
  (∀ v H' D', LG H D H' D' → VR K rs H H' D' v z → Q v H') → r vx lo hi H Q
theorem tPart_of {R : Option Int → Hp → Prop} (r : Rep P σ H D ρ g) {o : Int → γ → Out γ} (c : Cont P σ H D ρ ((ψ ρ g).bind fun y g2 => match y with | .d (.int i) => o i g2 | _ => .stuck) Q)
    (k : ∀ i g1 H1 D1, Rep P σ H1 D1 ρ g1 → Grow P.rs.fp H D H1 D1 → Cont P σ H1 D1 ρ (o i g1) Q → R (some i) H1) : tPart (tD P ψ) σ H R :=
  tD_bind r c fun y g1 v H1 D1 _ r1 gr vr c1 => by
    cases y with
    | d x =>
      cases x with
      | int i => cases vr; exact ⟨i, rfl, k i g1 H1 D1 r1 gr c1⟩
      | _ => exact c1.elim
    | _ => exact c1.elim
variable {rr : V → Option Int → Option Int → Hp → VK → Prop} {F : SV → Option Int → Option Int → Option SV} {p2 : Pos}
theorem dsl00 (hr : SlR X rr) (ok : SlOk P.K rr F) (he : DE X P e φ) : DE X P (.Subscript e (.Slice none none none p2) pos) (fSl F φ none none) := PE.imp (pe_slice hr he po_none po_none) fun σ H Q ⟨D, ρ, g, r, c⟩ =>
  tD_bind r c fun x g1 v H1 D1 _ r1 gr vr c1 => by
    obtain ⟨z, hz⟩ := Cont.of_some c1
    exact ok P.rs H1 D1 v x z none none Q r1.sub (fun _ h => r1.fpH h) vr.ar hz fun v H' D' l vr => Cont.done r1 c1 hz l vr
theorem dsl10 (hr : SlR X rr) (ok : SlOk P.K rr F) (he : DE X P e φ) (hl : DE X P a ψ) : DE X P (.Subscript e (.Slice (some a) none none p2) pos) (fSl F φ (some ψ) none) := PE.imp (pe_slice hr he (po_some hl) po_none) fun σ H Q ⟨D, ρ, g, r, c⟩ =>
  tD_bind r c fun x g1 v H1 D1 _ r1 gr vr c1 => tPart_of r1 c1 fun i g2 H2 D2 r2 gr2 c2 => by
    obtain ⟨z, hz⟩ := Cont.of_some c2
    exact ok P.rs H2 D2 v x z (some i) none Q r2.sub (fun _ h => r2.fpH h) (vr.ar.up gr2) hz fun v H' D' l vr => Cont.done r2 c2 hz l vr
theorem dsl01 (hr : SlR X rr) (ok : SlOk P.K rr F) (he : DE X P e φ) (hl : DE X P a ψ) : DE X P (.Subscript e (.Slice none (some a) none p2) pos) (fSl F φ none (some ψ)) := PE.imp (pe_slice hr he po_none (po_some hl)) fun σ H Q ⟨D, ρ, g, r, c⟩ =>
  tD_bind r c fun x g1 v H1 D1 _ r1 gr vr c1 => by
    show tPart (tD P ψ) σ H1 fun u H3 => rr v none u H3 Q
    refine tPart_of r1 c1 fun i g2 H2 D2 r2 gr2 c2 => ?_
    obtain ⟨z, hz⟩ := Cont.of_some c2
    exact ok P.rs H2 D2 v x z none (some i) Q r2.sub (fun _ h => r2.fpH h) (vr.ar.up gr2) hz fun v H' D' l vr => Cont.done r2 c2 hz l vr
theorem dsl11 {τ : Fn γ} (hr : SlR X rr) (ok : SlOk P.K rr F) (he : DE X P e φ) (hl : DE X P a ψ) (hh : DE X P b τ) : DE X P (.Subscript e (.Slice (some a) (some b) none p2) pos) (fSl F φ (some ψ) (some τ)) := PE.imp (pe_slice hr he (po_some hl) (po_some hh)) fun σ H Q ⟨D, ρ, g, r, c⟩ =>
  tD_bind r c fun x g1 v H1 D1 _ r1 gr vr c1 => tPart_of r1 c1 fun i g2 H2 D2 r2 gr2 c2 => tPart_of r2 c2 fun j g3 H3 D3 r3 gr3 c3 => by
    obtain ⟨z, hz⟩ := Cont.of_some c3
    exact ok P.rs H3 D3 v x z (some i) (some j) Q r3.sub (fun _ h => r3.fpH h) (vr.ar.up (gr2.trans gr3)) hz fun v H' D' l vr => Cont.done r3 c3 hz l vr
def cutD (xs : List PyData) (lo hi : Option Int) : List PyData := (xs.drop (HT.sIx xs.length 0 lo)).take (HT.sIx xs.length xs.length hi - HT.sIx xs.length 0 lo)
def oSl : SV → Option Int → Option Int → Option SV := fun x lo hi => match x with
  | .d (.tuple xs) => some (.d (.tuple (cutD xs lo hi)))
  | x => (lstOf x).map fun xs => .l (cutD xs lo hi)
def rSlTL (K : PySem.W.Frag) : V → Option Int → Option Int → Hp → VK → Prop := fun x lo hi H Q => rSlA K x lo hi H Q ∨ rSlL K x lo hi H Q
theorem sl_TL : SlR X (rSlTL X.K) := SlR.or sl_tupA sl_list
theorem DpAll.cut {vs : List V} {ds : List PyData} (h : DpAll K D vs ds) (lo hi : Option Int) : DpAll K D (cutV vs lo hi) (cutD ds lo hi) := by
  unfold cutV cutD
  rw [DpAll.len h]
  exact DpAll.take _ (DpAll.drop _ h)
theorem kSl : SlOk K (rSlTL K) oSl := fun {γ} rs H D vx x z lo hi Q s rd hx hz q => by
  unfold oSl at hz
  split at hz
  · rename_i xs
    cases hz
    cases hx with
    | tup h1 h2 =>
      rename_i a vs
      refine .inl ⟨a, vs, rfl, Sub.st s h1, fun hw => ?_, fun _ p hp => ?_⟩
      · have e : cutD xs lo hi = xs := by
          unfold cutD
          rw [DpAll.len h2] at hw
          rw [hw.1, hw.2]
          simp
        rw [e] at q
        exact q _ H D (.refl s) (Dp.tup h1 h2)
      · have l := LG.newD (o := .tup (cutV vs lo hi)) s hp
        exact q _ _ _ l (Dp.tup (SqT.of upd_same) (DpAll.up l.dk _ _ (DpAll.cut h2 lo hi)))
  · cases e : lstOf x with
    | none => rw [e] at hz; cases hz
    | some xs =>
      rw [e] at hz; cases hz
      obtain ⟨a, vs, rfl, h1, h2⟩ := ar_lst s hx e
      exact .inr ⟨a, vs, rfl, h1, fun p hp => q _ _ D (LG.new s hp) (vr_new s hp (nf_of hp rd) (DpAll.cut h2 lo hi))⟩
/-- xs[::-1] of a list -/
def fRev (φ : Fn γ) : Fn γ := fun ρ g => (φ ρ g).bind fun x g1 => .of ((lstOf x).map fun xs => .l xs.reverse) g1
theorem drevl {k : Nat} {p1 p2 p3 : Pos} (he : DE X P e φ) (hK : X.K = P.K := by rfl) : DE X P (.Subscript e (.Slice none none (some (.UnaryOp .USub (.Constant (.int 1) k p1) p2)) p3) pos) (fRev φ) := PE.imp (pe_revL he) fun σ H Q ⟨D, ρ, g, r, c⟩ =>
  tD_bind r c fun x g1 v H1 D1 _ r1 gr vr c1 => by
    obtain ⟨z, hz⟩ := Cont.of_some c1
    cases e : lstOf x with
    | none => rw [e] at hz; cases hz
    | some xs =>
      rw [e] at hz; cases hz
      obtain ⟨a, vs, rfl, h1, h2⟩ := ar_lst r1.sub vr.ar e
      rw [hK]
      exact ⟨a, vs, rfl, h1, fun p hp => Cont.done r1 c1 (by rw [e]; rfl) (LG.new r1.sub hp) (vr_new r1.sub hp (r1.nfp hp) (DpAll.rev h2))⟩

/-! ### lists written -/
/-- xs.append(e), xs a name's own list -/
def sApp (i : Nat) (φ : Fn γ) : SFn γ := fun ρ g => match ρ[i]? with
  | some (some (.l xs)) => (φ ρ g).bindS ρ fun y g1 => (match y with
    | .d x => if xs.length < 100000 then .next (ρ.set i (some (.l (xs ++ [x])))) g1 else .stuck
    | _ => .stuck)
  | _ => .stuck
theorem dapp (i : Nat) {o : Expr} {apos cpos : Pos} (ho : PE X o (tVar i)) (he : DE X P e φ) (hb : attributeBase o "append" X.env (eval o X.env) = eval o X.env := by rfl)
    (h2 : (((((backTo cpos (starEach [e] X.env)).all fun x => !x.fst) && (backToKw cpos (keywordEach [] X.env)).all fun x => x.fst.isSome) && decide (([e]).length + ([] : List Keyword).length + (if ([] : List Keyword).isEmpty = true then 0 else 1) < 30)) = true) := by rfl)
    (h3 : (apos.endLine == cpos.line) = true := by rfl) (h4 : starEach [e] X.env = (false, eval e X.env) :: starEach [] X.env := by rfl) (h5 : (backTo cpos (starEach [] X.env)).any (·.1) = false := by rfl)
    (hs : swapsWith (.Call (.Attribute o "append" apos) [e] [] cpos) none pos.line X.env = pure false := by rfl) : DS X P (.Expr (.Call (.Attribute o "append" apos) [e] [] cpos) pos) (sApp i φ) :=
  PS.imp (ps_expr (pe_bm PySem.F.plainAttrs_list PySem.F.slot_list_append PySem.F.type_list_append mt_append ho (pa_cons he pa_nil h4) hb h2 h3 h4 h5) hs) fun E σ H ⟨D, ρ, g, r, c⟩ => by
    unfold sApp at c
    split at c
    · rename_i xs ei
      obtain ⟨v, e1, a, vs, rfl, h1, h2, nf, h3⟩ := r.slot i _ ei
      refine ⟨_, e1, .inl ⟨rfl, vs, SqL.of h1⟩, ?_⟩
      refine tD_bindS r c fun y g1 w H1 D1 eo r1 gr vr c1 => ?_
      cases y with
      | d x =>
        simp only at c1
        by_cases hl : xs.length < 100000
        · rw [if_pos hl] at c1
          have h1' := gr.keep _ _ nf h1
          have lv := DpAll.len h3
          exact ⟨a, vs, w, rfl, rfl, h1', Nat.lt_of_le_of_lt (by omega : vs.length ≤ 100000) (by decide), c1 _ _ _ (r1.mut ei e1 (DpAll.app (DpAll.up gr.dk _ _ h3) (.cons vr .nil))) (Sub.refl _)⟩
        · rw [if_neg hl] at c1; exact c1.elim
      | _ => exact c1.elim
    · exact c.elim
/-- xs.reverse() -/
def sRevS (i : Nat) : SFn γ := fun ρ g => match ρ[i]? with
  | some (some (.l xs)) => .next (ρ.set i (some (.l xs.reverse))) g
  | _ => .stuck
theorem drevs (i : Nat) {o : Expr} {apos cpos : Pos} (ho : PE X o (tVar i)) (hb : attributeBase o "reverse" X.env (eval o X.env) = eval o X.env := by rfl) (h3 : (apos.endLine == cpos.line) = true := by rfl)
    (hs : swapsWith (.Call (.Attribute o "reverse" apos) [] [] cpos) none pos.line X.env = pure false := by rfl) : DS X P (.Expr (.Call (.Attribute o "reverse" apos) [] [] cpos) pos) (sRevS i) :=
  PS.imp (ps_expr (pe_bm0 PySem.F.plainAttrs_list PySem.F.slot_list_reverse PySem.F.type_list_reverse mt_reverse ho hb h3) hs) fun E σ H ⟨D, ρ, g, r, c⟩ => by
    unfold sRevS at c
    split at c
    · rename_i xs ei
      obtain ⟨v, e1, a, vs, rfl, h1, h2, nf, h3⟩ := r.slot i _ ei
      exact ⟨_, e1, .inl ⟨rfl, vs, SqL.of h1⟩, a, vs, rfl, rfl, h1, c _ _ _ (r.mut ei e1 (DpAll.rev h3)) (Sub.refl _)⟩
    · exact c.elim
/-- xs[k] = e, xs a name's own list -/
def sSetI (i : Nat) (φk φ : Fn γ) : SFn γ := fun ρ g => (φ ρ g).bindS ρ fun y g1 => match y with
  | .d x => (match ρ[i]? with
    | some (some (.l xs)) => (φk ρ g1).bindS ρ fun k g2 => (match k with
      | .d (.int n) => (match ixN xs.length n with
        | some j => .next (ρ.set i (some (.l (xs.set j x)))) g2
        | none => .stuck)
      | _ => .stuck)
    | _ => .stuck)
  | _ => .stuck
theorem dseti (i : Nat) {o k : Expr} {tpos : Pos} {φk : Fn γ} (ho : PE X o (tVar i)) (hk : DE X P k φk) (he : DE X P e φ)
    (h1 : ∀ (v : Value), assign (o.Subscript k tpos) X.env v = (do
        let ov ← holding [v] (eval o X.env)
        let iv ← holding [v, ov] (eval k X.env)
        standAt tpos
        holding [v, ov, iv] (setItem ov iv v)
        release [v, ov, iv] []) := by intro _; rfl)
    (h2 : swapsWithSole [o.Subscript k tpos] e pos.line X.env = pure false := by rfl) (h3 : swappedStores [o.Subscript k tpos] e X.env = pure none := by rfl) (h4 : List.map (fun x => x.snd) (assignEach [o.Subscript k tpos] X.env) = [assign (o.Subscript k tpos) X.env] := by rfl) :
    DS X P (.Assign [.Subscript o k tpos] e pos) (sSetI i φk φ) :=
  PS.imp (ps_asg he (pg_sub ho hk set_list h1) h2 h3 h4) fun E σ H ⟨D, ρ, g, r, c⟩ => by
    refine tD_bindS r c fun y g1 w H1 D1 eo r1 gr vr c1 => ?_
    cases y with
    | d x =>
      simp only at c1
      split at c1
      · rename_i xs' ei'
        obtain ⟨v, e1, a, vs, rfl, k1, k2, nf, k3⟩ := r1.slot i _ ei'
        refine ⟨_, e1, ?_⟩
        refine tD_bindS r1 c1 fun kk g2 wk H2 D2 ek r2 gr2 vrk c2 => ?_
        cases kk with
        | d z =>
          cases z with
          | int n =>
            simp only at c2
            cases q : ixN xs'.length n with
            | none => rw [q] at c2; exact c2.elim
            | some j =>
              rw [q] at c2
              cases vrk
              exact ⟨a, vs, n, j, rfl, rfl, gr2.keep _ _ nf k1, by rw [DpAll.len k3]; exact q, c2 _ _ _ (r2.mut ei' e1 (DpAll.set (Dp.up gr2.dk _ _ vr) j (DpAll.up gr2.dk _ _ k3))) (Sub.refl _)⟩
          | _ => exact c2.elim
        | _ => exact c2.elim
      · exact c1.elim
    | _ => exact c1.elim
/-- a, b = e -/
def sUnp (f : Asg) (φ : Fn γ) : SFn γ := fun ρ g => (φ ρ g).bindS ρ fun y g1 => match y with
  | .d x => (match f x ρ with
    | some ρ' => .next ρ' g1
    | none => .stuck)
  | _ => .stuck
theorem dunp {tg : Expr} {gt : TG} {f : Asg} (he : DE X P e φ) (hg : PG X tg gt) (ht : TgIs P gt f) (h2 : swapsWithSole [tg] e pos.line X.env = pure false := by rfl) (h3 : swappedStores [tg] e X.env = pure none := by rfl)
    (h4 : List.map (fun x => x.snd) (assignEach [tg] X.env) = [assign tg X.env] := by rfl) : DS X P (.Assign [tg] e pos) (sUnp f φ) :=
  PS.imp (ps_asg he hg h2 h3 h4) fun E σ H ⟨D, ρ, g, r, c⟩ => by
    refine tD_bindS r c fun y g1 w H1 D1 eo r1 gr vr c1 => ?_
    cases y with
    | d x =>
      simp only at c1
      cases q : f x ρ with
      | none => rw [q] at c1; exact c1.elim
      | some ρ' =>
        rw [q] at c1
        exact ht.run w x σ H1 D1 ρ g1 ρ' _ r1 vr q fun σ' r' => c1 σ' H1 D1 r' (Sub.refl _)
    | _ => exact c1.elim
end
end Dn

set_option Elab.async false
set_option linter.all false
set_option autoImplicit false
set_option maxRecDepth 100000
set_option maxHeartbeats 4000000
namespace Dn
open PySem PySem.Spec PyProof.Rows L2
/-- what __init__(self, a, b): self.a = a; self.b = b promises -/
def spIn2 (K : PySem.W.Frag) (C : Addr) (f1 f2 : Str) : Sp := fun vs H Q _ => ∃ (a : Addr) (u v : V), vs = [.ref a, u, v] ∧ OexC K C ∧ PySem.W.findIn K (.ref C) f1 = some none ∧ PySem.W.findIn K (.ref C) f2 = some none ∧ H a = some (exo a C none) ∧
  ∀ dx, H dx = none → dx ≠ a → Q .non (upd (upd (upd H dx (exd dx [(f1, u)])) a (exo a C (some dx))) dx (exd dx [(f2, v), (f1, u)]))
/-- the reading of that body -/
theorem init2_reads {K : PySem.W.Frag} {C : Addr} {f1 f2 : Str} {N : List Str} {vs : List V} {H : Hp} {Q : VK} {E : XK} (hN : N.length = 3) (h : spIn2 K C f1 f2 vs H Q E) :
    (tSeq (tOst K f1 (tVar 0) (tVar 1)) (tOst K f2 (tVar 0) (tVar 2))) { nx := fun _ H' => Q .non H', rt := Q } (L2.start N vs) H := by
  obtain ⟨a, u, v, rfl, T, n1, n2, ha, q⟩ := h
  have s0 : (L2.start N [V.ref a, u, v])[0]? = some (some (.ref a)) := rfl
  have s1 : (L2.start N [V.ref a, u, v])[1]? = some (some u) := rfl
  have s2 : (L2.start N [V.ref a, u, v])[2]? = some (some v) := rfl
  refine ⟨u, s1, _, s0, a, C, rfl, T, n1, .inl ⟨ha, fun dx hd hne => ?_⟩⟩
  refine ⟨v, s2, _, s0, a, C, rfl, T, n2, .inr ⟨dx, [(f1, u)], upd_same, ?_, by simp, q dx hd hne⟩⟩
  rw [upd_ne hne, upd_same]
/-- an own exception class of two fields -/
structure Ex2 (P : Program) (w : World) (K : PySem.W.Frag) (mg : Str → Option Value) (base : Heap) (x : Str) (C : Addr) (f1 f2 : Str) : Prop where
  g : mg x = some (.ref C)
  oex : OexC K C
  xf : XfC K C
  n1 : PySem.W.findIn K (.ref C) f1 = some none
  n2 : PySem.W.findIn K (.ref C) f2 = some none
  te : PySem.W.exmOne K (.ref C) (.ref C) = some true
  init : ∃ (fI : Addr) (fd : FuncData) (ps : List Str), PySem.W.findIn K (.ref C) "__init__" = some (some (.ref fI)) ∧ PySem.W.typeIn K (.ref fI) = some (.type "function") ∧ FnOk P w K mg base CX0 1 fI fd ps (spIn2 K C f1 f2) ∧ L2.Binds K fd ps []
section
variable {γ : Type} {X : Cx} {P : Pm γ} {σ : L2.St} {H D H1 D1 H2 D2 H' D' : Hp} {ρ : Env} {g g1 g2 : γ} {e a b c : Expr} {φ ψ τ : Fn γ} {Φ Ψ : FnA γ} {t : TE} {pos : Pos} {Q : VK} {K : PySem.W.Frag}
/-- raise C(e1, e2) -/
def sRaise2 (C : Addr) (f1 f2 : Str) (Φ : FnA γ) : SFn γ := fun ρ g => (Φ ρ g).bindS ρ fun ys g1 => match ys with
  | [.d u, .d v] => .exc C [(f2, v), (f1, u)] ρ g1
  | _ => .stuck
theorem tDA_bindS {o : List SV → γ → SOut γ} {E : Ends} (r : Rep P σ H D ρ g) (c : ContS P D ((Φ ρ g).bindS ρ o) E) {R : List V → Hp → Prop}
    (k : ∀ ys g1 vs H1 D1, Φ ρ g = .ok ys g1 → Rep P σ H1 D1 ρ g1 → Grow P.rs.fp H D H1 D1 → ARs P.K P.rs H1 D1 vs ys → ContS P D1 (o ys g1) E → R vs H1) : tDA P Φ σ H R := by
  refine ⟨D, ρ, g, r, ?_⟩
  cases e : Φ ρ g with
  | ok y g1 =>
    rw [e] at c
    exact fun v H1 D1 r1 gr vr => k y g1 v H1 D1 e r1 gr vr (ContS.back gr.dk c)
  | exc C fs g1 =>
    rw [e] at c
    exact fun d vfs H' D' r' gr h1 h2 => c σ d vfs H' D' r' gr.dk h1 h2
  | stuck => rw [e] at c; exact c
theorem draise2 {x : Str} {p p2 : Pos} {C : Addr} {f1 f2 : Str} {es : List Expr} (tk : Takes X P.W) (T : Ex2 X.prog X.w X.K X.mg X.base x C f1 f2) (hc : X.calm = true) {k : Nat} (hr : Room (k + 2) X.A) (ha : DA X P (e :: es) Φ) (hg : Gl X x := by rfl) (hK : X.K = P.K := by rfl)
    (hdb : (x == ("__debug__" : Str)) = false := by decide) (he : starEach (e :: es) X.env = (false, eval e X.env) :: starEach es X.env := by rfl) (hpl : (backTo pos (starEach es X.env)).any (·.1) = false := by rfl) :
    DS X P (.Raise (some (.Call (.Name x p) (e :: es) [] pos)) none p2) (sRaise2 C f1 f2 Φ) := by
  obtain ⟨fI, fd, ps, i1, i2, i3, i4⟩ := T.init
  refine PS.imp (ps_raise hc tk (pmk_oex (dvs := []) T.oex i1 i2 i3 (hr.mono (by omega)) i4 .nil pass0 hg T.g ha hdb he hpl)) fun E σ H ⟨D, ρ, g, r, c⟩ => ?_
  refine tDA_bindS r c fun ys g1 vs H1 D1 _ r1 gr vr c1 => ?_
  match ys, vr, c1 with
  | [.d u, .d v], .cons (v := vu) h1 (.cons (v := vv) h2 .nil), c1 =>
    refine ⟨by simp, fun a hA => ⟨a, vu, vv, rfl, T.oex, T.n1, T.n2, upd_same, fun dx hd hne => ⟨rfl, dx, [(f2, vv), (f1, vu)], ?_, upd_same, ?_, ?_⟩⟩⟩
    · rw [upd_ne (Ne.symm hne), upd_same]
    · rwa [upd_ne hne] at hd
    · have hd1 : H1 dx = none := by rwa [upd_ne hne] at hd
      have hda : D1 a = none := by
        cases z : D1 a with
        | none => rfl
        | some u => rw [r1.sub a u z] at hA; cases hA
      have hdd : D1 dx = none := by
        cases z : D1 dx with
        | none => rfl
        | some u => rw [r1.sub dx u z] at hd1; cases hd1
      have same : ∀ b, b ≠ a → b ≠ dx → upd (del (upd (upd (upd (upd H1 a (exo a C none)) dx (exd dx [(f1, vu)])) a (exo a C (some dx))) dx (exd dx [(f2, vv), (f1, vu)])) a) dx (.xd [(f2, vv), (f1, vu)]) b = H1 b := fun b n1 n2 => by
        rw [upd_ne n2, del_ne n1, upd_ne n2, upd_ne n1, upd_ne n2, upd_ne n1]
      have l : LG H1 D1 (upd (del (upd (upd (upd (upd H1 a (exo a C none)) dx (exd dx [(f1, vu)])) a (exo a C (some dx))) dx (exd dx [(f2, vv), (f1, vu)])) a) dx (.xd [(f2, vv), (f1, vu)])) D1 :=
        ⟨fun b o hb => by rw [same b (ne_of_none hb hA) (ne_of_none hb hd1)]; exact hb, fun _ _ h => h, fun _ _ h => h, fun b o hb => by rw [same b (ne_of_none hb hda) (ne_of_none hb hdd)]; exact r1.sub b o hb⟩
      exact c1 σ dx _ _ D1 (r1.lg l) (Sub.refl _) upd_same (.cons ⟨rfl, h2⟩ (.cons ⟨rfl, h1⟩ .nil))

/-! ### try: .. except C as n: return repr((n.f1, n.f2)) -/
def sTryR (i : Nat) (C : Addr) (f1 f2 : Str) (ψ : SFn γ) : SFn γ := fun ρ g => match ψ ρ g with
  | .exc C' fs ρ' g' => if C' = C ∧ i < ρ'.length then (match fs.lookup f1, fs.lookup f2 with
    | some u, some v => if (PyData.tuple [u, v]).showable = true ∧ (PyData.tuple [u, v]).depth ≤ 60 ∧ (PyData.tuple [u, v]).shown.length ≤ sizeLine then .ret (.d (.str (PyData.tuple [u, v]).shown)) g' else .stuck
    | _, _ => .stuck) else .stuck
  | o => o
theorem FR.get {vfs : List (Str × V)} {fs : List (Str × PyData)} (h : FR K D vfs fs) {f : Str} {u : PyData} (e : fs.lookup f = some u) : ∃ v, vfs.lookup f = some v ∧ Dp K D v u := by
  induction h with
  | nil => cases e
  | cons hp ht ih =>
    rename_i p q l1 l2
    obtain ⟨k1, v1⟩ := p
    obtain ⟨k2, u2⟩ := q
    obtain ⟨rfl, hd⟩ := hp
    simp only [List.lookup] at e ⊢
    split at e
    · cases e
      exact ⟨v1, rfl, hd⟩
    · exact ih e
abbrev Pm.wish (P : Pm γ) (W : WX) : Pm γ := { P with W := W }
theorem Rep.wish (r : Rep P σ H D ρ g) (W : WX) : Rep (P.wish W) σ H D ρ g := ⟨r.grow, r.sub, r.f0, r.len, r.slot, r.own, r.nob, r.apart, r.fd, r.res⟩
theorem Rep.unwish {W : WX} (r : Rep (P.wish W) σ H D ρ g) : Rep P σ H D ρ g := ⟨r.grow, r.sub, r.f0, r.len, r.slot, r.own, r.nob, r.apart, r.fd, r.res⟩
theorem dtry {x n : Str} {i : Nat} {C : Addr} {f1 f2 : Str} {body : List Stmt} {ψ : SFn γ} {np q1 q2 q3 q4 q5 q6 q7 pr pos' : Pos} {kt : Nat} (T : Ex2 X.prog X.w X.K X.mg X.base x C f1 f2) (tk : Takes X P.W) (nd : X.N.Nodup) (hi : X.N[i]? = some n) (hG : X.A.guards = some []) (hu : X.A.units + 200 < cLine)
    (hs : X.stack = X.env :: X.outer) (hf : X.env.frame = some X.env.locals) (hln : X.env.kindOf n = some .local) (hg : Gl X x) (hgr : Gl X "repr") (hmr : X.mg "repr" = none) (hK : X.K = P.K) (hd : (n == ("__debug__" : Str)) = false) (hcd : (n == ("__classdict__" : Str)) = false) (hdb : (x == ("__debug__" : Str)) = false)
    (hv : Vis X.env.scope n) (b1 : attributeBase (.Name n q1) f1 X.env (eval (.Name n q1) X.env) = eval (.Name n q1) X.env) (b2 : attributeBase (.Name n q3) f2 X.env (eval (.Name n q3) X.env) = eval (.Name n q3) X.env)
    (t1 : starEach [.Attribute (.Name n q1) f1 q2, .Attribute (.Name n q3) f2 q4] X.env = (false, eval (.Attribute (.Name n q1) f1 q2) X.env) :: starEach [.Attribute (.Name n q3) f2 q4] X.env)
    (t2 : starEach [.Attribute (.Name n q3) f2 q4] X.env = (false, eval (.Attribute (.Name n q3) f2 q4) X.env) :: starEach [] X.env)
    (t3 : starEach [.Tuple [.Attribute (.Name n q1) f1 q2, .Attribute (.Name n q3) f2 q4] kt q5] X.env = (false, eval (.Tuple [.Attribute (.Name n q1) f1 q2, .Attribute (.Name n q3) f2 q4] kt q5) X.env) :: starEach [] X.env)
    (t4 : (backTo q6 (starEach [] X.env)).any (·.1) = false)
    (hb : ∀ (W : WX) (pn : List (Addr × Obj)) (xe : Value → Shared → Prop), Takes (X.tr pn xe) W → PassesOwn (model X.prog X.w) X.A X.env xe → DSs (X.tr pn xe) (P.wish W) body ψ) :
    DS X P (.Try body [.ExceptHandler (some (.Name x np)) (some n) [.Return (some (.Call (.Name "repr" pr) [.Tuple [.Attribute (.Name n q1) f1 q2, .Attribute (.Name n q3) f2 q4] kt q5] [] q6)) q7] pos'] [] [] pos) (sTryR i C f1 f2 ψ) := by
  refine PS.imp (ps_try_as (i := i) (tb := fun W => tS (P.wish W) ψ) (ts := fun a cls d => tRet (tCB (rRepr X.K) (tCons (tTup (tCons (tXf a cls d C f1 (tVar i)) (tCons (tXf a cls d C f2 (tVar i)) tNil))) tNil))) hs hf nd hi hln ⟨hg, hdb, .inl T.g⟩ tk hb
    (fun a oe cls d pn hz hfd => pss_one (ps_ret (pe_callB (X := X.suite a ((a, oe) :: pn)) (call_reprD (X := X.suite a ((a, oe) :: pn)) hG hu) hgr hmr (by decide +kernel)
      (pa_cons (pe_tup (pa_cons (pe_xf T.xf T.n1 hz hfd (pe_var (X := X.suite a ((a, oe) :: pn)) hi hv hd hcd) b1) (pa_cons (pe_xf T.xf T.n2 hz hfd (pe_var (X := X.suite a ((a, oe) :: pn)) hi hv hd hcd) b2) pa_nil t2) t1)) pa_nil t3) (by decide) (by decide) t3 t4)))) fun E σ H ⟨D, ρ, g, r, c⟩ => ?_
  refine ⟨D, ρ, g, r.wish _, ?_⟩
  unfold sTryR at c
  cases w : ψ ρ g with
  | next ρ' g' => rw [w] at c; exact fun σ' H' D' r' s' => c σ' H' D' r'.unwish s'
  | brk ρ' g' => rw [w] at c; exact fun σ' H' D' r' s' => c σ' H' D' r'.unwish s'
  | cont ρ' g' => rw [w] at c; exact fun σ' H' D' r' s' => c σ' H' D' r'.unwish s'
  | ret y g' => rw [w] at c; exact c
  | stuck => rw [w] at c; exact c
  | exc C' fs ρ' g' =>
    rw [w] at c
    simp only at c
    by_cases hc : C' = C ∧ i < ρ'.length
    · rw [if_pos hc] at c
      obtain ⟨rfl, hi'⟩ := hc
      split at c
      · rename_i u v e1 e2
        by_cases hl : (PyData.tuple [u, v]).showable = true ∧ (PyData.tuple [u, v]).depth ≤ 60 ∧ (PyData.tuple [u, v]).shown.length ≤ sizeLine
        · rw [if_pos hl] at c
          intro σ' d vfs H' D' r' s' hd' hfr
          refine ⟨true, T.te, fun _ a ha => ?_, fun z => nomatch z⟩
          have hiσ : i < σ'.length := r'.len ▸ hi'
          have es : (σ'.set i (some (V.ref a)))[i]? = some (some (.ref a)) := List.getElem?_set_self hiσ
          obtain ⟨x1, g1, h1⟩ := hfr.get e1
          obtain ⟨x2, g2, h2⟩ := hfr.get e2
          refine ⟨_, es, rfl, rfl, d, vfs, x1, rfl, hd', g1, _, es, rfl, rfl, d, vfs, x2, rfl, hd', g2, by show 2 ≤ sizeLine; decide, fun p hp => ?_⟩
          have l := LG.newD (o := .tup [x1, x2]) r'.sub hp
          have rr := r'.unwish.lg l
          have dp : Dp P.K (upd D' p (.tup [x1, x2])) (.ref p) (.tuple [u, v]) := Dp.tup (SqT.of upd_same) (.cons (Dp.up l.dk _ _ h1) (.cons (Dp.up l.dk _ _ h2) .nil))
          refine ⟨_, _, rfl, by rw [hK]; exact Dp.up rr.sub _ _ dp, hl.1, hl.2.1, hl.2.2, c _ _ _ rr.grow rr.sub rr.fd rr.res (Dp.str _)⟩
        · rw [if_neg hl] at c; exact c.elim
      · exact c.elim
    · rw [if_neg hc] at c; exact c.elim
end
end Dn

set_option Elab.async false
set_option linter.all false
set_option autoImplicit false
set_option maxRecDepth 100000
set_option maxHeartbeats 4000000
namespace Dn
open PySem PySem.Spec PyProof.Rows L2
/-- an argument: data, or the resource -/
def argOk : SV → Bool
  | .d _ => true
  | .h => true
  | _ => false
def QS {γ : Type} (K : PySem.W.Frag) (rs : Rs γ) (H D : Hp) (o : Out γ) (Q : VK) (E : XK) : Prop := match o with
  | .ok y g' => ∀ v H' D', Grow rs.fp H D H' D' → Sub D' H' → rs.R g' H' → VR K rs H H' D' v y → Q v H'
  | .exc C fs g' => ∀ d vfs H' D', Grow rs.fp H D H' D' → Sub D' H' → rs.R g' H' → H' d = some (.xd vfs) → FR K D' vfs fs → E (.ref C) (some d) H'
  | .stuck => False
/-- what a def that uses a resource promises -/
def spS {γ ι : Type} (Fm : ι → Rs γ) (K : PySem.W.Frag) (n : Nat) (f : List SV → γ → Out γ) : Sp := fun vs H Q E => vs.length = n ∧ ∃ (i : ι) (D : Hp) (ys : List SV) (g : γ), Sub D H ∧ (∀ a, (Fm i).fp a → D a = none) ∧ (Fm i).R g H ∧ ARs K (Fm i) H D vs ys ∧ ys.all argOk = true ∧ QS K (Fm i) H D (f ys g) Q E
section
variable {gd : Prop} {γ ι : Type} {Fm : ι → Rs γ} {X : Cx} {P : Pm γ} {σ : L2.St} {H D H1 D1 H2 D2 H' D' : Hp} {ρ : Env} {g g1 g2 : γ} {e a b c : Expr} {φ ψ τ : Fn γ} {Φ Ψ : FnA γ} {t : TE} {pos : Pos} {Q : VK} {K : PySem.W.Frag}
def fCallS (n : Nat) (f : List SV → γ → Out γ) (Φ : FnA γ) : Fn γ := fun ρ g => (Φ ρ g).bind fun ys g1 => if ys.length = n ∧ ys.all argOk = true then (match f ys g1 with
  | .ok (.b _) _ => .stuck
  | o => o) else .stuck
theorem dcallS {k : Nat} {f : Addr} {fd : FuncData} {ps : List Str} {n : Nat} {fn : List SV → γ → Out γ} {x : Str} {p : Pos} {es : List Expr} {i : ι} (hi : P.rs = Fm i) (tk : Takes X P.W) (hG : gd → X.A.guards = some []) (F : FnG gd X.prog X.w X.K X.mg X.base k f fd ps (spS Fm P.K n fn)) (hr : Room k X.A)
    (hm : X.mg x = some (.ref f)) (hk : PySem.W.keepIn X.K (.ref f) = true) (hb : Binds X.K fd ps []) (ha : DA X P (e :: es) Φ) (hg : Gl X x := by rfl) (hdb : (x == ("__debug__" : Str)) = false := by decide) (he : starEach (e :: es) X.env = (false, eval e X.env) :: starEach es X.env := by rfl)
    (hpl : (backTo pos (starEach es X.env)).any (·.1) = false := by rfl) : DE X P (.Call (.Name x p) (e :: es) [] pos) (fCallS n fn Φ) :=
  PE.imp (pcallG tk hG F hr hm hk hb ha hg hdb he hpl) fun σ H Q ⟨D, ρ, g, r, c⟩ =>
    tDA_bind r c fun ys g1 vs H1 D1 _ r1 gr vr c1 => by
      by_cases hn : ys.length = n ∧ ys.all argOk = true
      · rw [if_pos hn] at c1
        refine ⟨by rw [vr.len]; exact hn.1, i, D1, ys, g1, r1.sub, by rw [← hi]; exact r1.fd, by rw [← hi]; exact r1.res, by rw [← hi]; exact vr, hn.2, ?_⟩
        rw [← hi]
        unfold QS
        cases w : fn ys g1 with
        | ok y g' =>
          rw [w] at c1
          intro v H' D' gr' s' hR' hv
          cases y with
          | d x => exact c1 v H' D' (r1.step gr' s' hR') gr' hv
          | l xs => exact c1 v H' D' (r1.step gr' s' hR') gr' hv
          | b xs => exact c1.elim
          | h => exact c1 v H' D' (r1.step gr' s' hR') gr' hv
        | exc C fs g' =>
          rw [w] at c1
          exact fun d vfs H' D' gr' s' hR' h1 h2 => c1 d vfs H' D' (r1.step gr' s' hR') gr' h1 h2
        | stuck => rw [w] at c1; exact c1
      · rw [if_neg hn] at c1; exact c1.elim
def envS (N : List Str) (ys : List SV) : Env := ys.map some ++ List.replicate (N.length - ys.length) none
def runS (N : List Str) (ψ : SFn γ) (ys : List SV) (g : γ) : Out γ := (ψ (envS N ys) g).fin
theorem envS_get {N : List Str} {ys : List SV} {i : Nat} {y : SV} (h : (envS N ys)[i]? = some (some y)) : ys[i]? = some y := by
  unfold envS at h
  by_cases hi : i < ys.length
  · rw [List.getElem?_append_left (by simpa using hi), List.getElem?_map] at h
    have e : ys[i]? = some ys[i] := by simp [hi]
    rw [e] at h
    cases h
    exact e
  · rw [List.getElem?_append_right (by simpa using hi), List.getElem?_replicate] at h
    split at h
    · cases h
    · cases h
theorem ARs.get {rs : Rs γ} : ∀ {vs : List V} {ys : List SV} {i : Nat} {y : SV}, ARs K rs H D vs ys → ys[i]? = some y → ∃ v, vs[i]? = some v ∧ AR K rs H D v y
  | _, _, _, _, .nil, e => by simp at e
  | _, _, 0, _, .cons a t, e => by simp at e; subst e; exact ⟨_, rfl, a⟩
  | _, _, i + 1, y, .cons _ t, e => by
    obtain ⟨v, h1, h2⟩ := ARs.get (i := i) (y := y) t (by simpa using e)
    exact ⟨v, by simpa using h1, h2⟩
theorem repS {rs : Rs γ} {N : List Str} {vs : List V} {ys : List SV} {W : WX} (s : Sub D H) (fd : ∀ a, rs.fp a → D a = none) (hR : rs.R g H) (h : ARs K rs H D vs ys) (ok : ys.all argOk = true) : Rep ⟨K, rs, H, D, W⟩ (L2.start N vs) H D (envS N ys) g := by
  have noL : ∀ (i : Nat) (xs : List PyData), ys[i]? ≠ some (.l xs) ∧ ys[i]? ≠ some (.b xs) := fun i xs => by
    have key : ∀ y, ys[i]? = some y → argOk y = true := fun y e => (List.all_eq_true.mp ok) y (List.mem_of_getElem? e)
    constructor
    · intro e; have := key _ e; cases this
    · intro e; have := key _ e; cases this
  refine ⟨.refl, s, fun a z => rs.there g H a hR z, ?_, fun i y e => ?_, fun i xs a e => ?_, fun i xs e => ?_, fun i j a b xs ys' _ e => ?_, fd, hR⟩
  · unfold envS L2.start
    simp [ARs.len h]
  · obtain ⟨v, e2, h2⟩ := ARs.get h (envS_get e)
    exact ⟨v, start_get e2, h2⟩
  · exact absurd (envS_get e) (noL i xs).1
  · exact absurd (envS_get e) (noL i xs).2
  · exact absurd (envS_get e) (noL i xs).1
end
section
variable {gd : Prop} {P : Program} {w : World} {K : PySem.W.Frag} {mg : Str → Option Value} {base : Heap} {γ ι : Type} {Fm : ι → Rs γ}
/-- THE RULE for a def with a resource -/
theorem fnS {x qual : Str} {st : Stmt} {f : Addr} {fd : FuncData} {N ps : List Str} {k : Nat} {ψ : SFn γ} (F : Fun K x qual st f fd) (S : FnScope N ps (defScope st))
    (hbody : ∀ (cdv : Value) (A : Around) (outer : List PySem.Env) (s : Shared) (H D : Hp) (E : XK) (i : ι), Room k (cxD P w K mg base N qual st f cdv A outer s H E).A → Takes (cxD P w K mg base N qual st f cdv A outer s H E) (fun cls d _ H => E cls d H) →
      PassesOwn (model P w) (cxD P w K mg base N qual st f cdv A outer s H E).A (cxD P w K mg base N qual st f cdv A outer s H E).env (cxD P w K mg base N qual st f cdv A outer s H E).xe → (gd → (cxD P w K mg base N qual st f cdv A outer s H E).A.guards = some []) →
      DSs (cxD P w K mg base N qual st f cdv A outer s H E) ⟨K, Fm i, H, D, fun cls d _ H => E cls d H⟩ (defBody st) ψ) : FnG gd P w K mg base (k + 1) f fd ps (spS Fm K ps.length (runS N ψ)) := by
  refine fnG_of F S (fun vs H Q E h => h.1) fun cdv A outer s H vs Q E hG hr h => ?_
  obtain ⟨hl, i, D, ys, g, sd, hfd, hR, ha, ok, q⟩ := h
  refine ⟨_, hbody cdv A outer s H D E i hr (takes_of rfl rfl rfl rfl) (passes_of rfl) hG, D, envS N ys, g, repS sd hfd hR ha ok, ?_⟩
  unfold runS at q
  cases o : ψ (envS N ys) g with
  | next ρ' g' =>
    rw [o] at q
    exact fun σ' H' D' r' s' => q _ H' D' r'.grow r'.sub r'.res Dp.non
  | ret y g' =>
    rw [o] at q
    exact fun v H' D' gr s' _ hR' vr => q v H' D' gr s' hR' vr
  | exc C fs ρ' g' =>
    rw [o] at q
    exact fun σ' d vfs H' D' r' s' h1 h2 => q d vfs H' D' r'.grow r'.sub r'.res h1 h2
  | brk ρ' g' => rw [o] at q; exact q.elim
  | cont ρ' g' => rw [o] at q; exact q.elim
  | stuck => rw [o] at q; exact q.elim
theorem FnG.eqfS {f : Addr} {fd : FuncData} {ps : List Str} {k n : Nat} {fn fn' : List SV → γ → Out γ} (h : FnG gd P w K mg base k f fd ps (spS Fm K n fn)) (e : ∀ ys g, ys.length = n → fn ys g = fn' ys g) : FnG gd P w K mg base k f fd ps (spS Fm K n fn') :=
  h.imp fun vs H Q E ⟨hl, i, D, ys, g, s, h1, h2, h3, h4, q⟩ => ⟨hl, i, D, ys, g, s, h1, h2, h3, h4, by rw [e ys g (by rw [← ARs.len h3]; exact hl)]; exact q⟩
end
end Dn

set_option Elab.async false
set_option linter.all false
set_option autoImplicit false
set_option maxRecDepth 100000
set_option maxHeartbeats 4000000
namespace Dn
open PySem PySem.Spec PyProof.Rows L2
section
variable {gd : Prop} {prog : Program} {w : World} {A : Around} {E : Value → Shared → Prop} {s : Shared}
/-- a whole slice, backwards -/
theorem applied_back {sl : Addr} {vl vu vs : Value} {n : Nat} {Q : Int × Int × Nat → Shared → Prop} (hs : s.heap.IsSliceOf sl vl vu vs) (pl : IsPart vl none) (pu : IsPart vu none) (ps : IsPart vs (some (-1)))
    (h : Q ((n : Int) - 1, -1, n) s) : wpAny (model prog w) A (Builtin.Slice.sliceApplied (.ref sl) (pure (n : Int))) Q E s := by
  obtain ⟨os, hos, hcs, hds⟩ := id hs
  unfold Builtin.Slice.sliceApplied Builtin.Slice.sliceFields
  refine wpAny_bind (wpAny_bind (wpAny_field hos hds (x := vl) rfl (wpAny_bind (wpAny_field hos hds (x := vu) rfl (wpAny_bind (wpAny_field hos hds (x := vs) rfl (wpAny_pure ?_)))))))
  refine wpAny_bind (HT.slicePart_ ps ?_)
  show wpAny _ _ (if ((-1 : Int) == 0) = true then _ else _) _ _ s
  rw [if_neg (by decide)]
  refine wpAny_bind (HT.slicePart_ pl (wpAny_bind (HT.slicePart_ pu (wpAny_bind (wpAny_pure ?_)))))
  have e1 : Builtin.Slice.sliceAdjust none none (-1) (n : Int) = ((n : Int) - 1, -1) := by
    unfold Builtin.Slice.sliceAdjust
    simp
  have e2 : Builtin.Slice.slicePlaces ((n : Int) - 1) (-1) (-1) = n := by
    unfold Builtin.Slice.slicePlaces
    simp
    omega
  show wpAny _ _ (match Builtin.Slice.sliceAdjust none none (-1) (n : Int) with | (lo, hi) => pure (lo, (-1 : Int), Builtin.Slice.slicePlaces lo hi (-1))) _ _ s
  rw [e1]
  show wpAny _ _ (pure ((n : Int) - 1, (-1 : Int), Builtin.Slice.slicePlaces ((n : Int) - 1) (-1) (-1))) _ _ s
  rw [e2]
  exact wpAny_pure h
theorem pick_back (xs : Array Value) : ((List.range xs.size).filterMap fun (k : Nat) => xs[(((xs.size : Nat) : Int) - 1 + (k : Int) * (-1)).toNat]?).toArray = xs.toList.reverse.toArray := by
  congr 1
  apply List.ext_getElem?
  intro j
  have e : (List.range xs.size).filterMap (fun (k : Nat) => xs[(((xs.size : Nat) : Int) - 1 + (k : Int) * (-1)).toNat]?) = (List.range xs.size).pmap (fun k (h : k < xs.size) => xs[xs.size - 1 - k]'(by omega)) (fun k hk => by simpa using hk) := by
    have key : ∀ (l : List Nat) (h : ∀ k ∈ l, k < xs.size), l.filterMap (fun (k : Nat) => xs[(((xs.size : Nat) : Int) - 1 + (k : Int) * (-1)).toNat]?) = l.pmap (fun k (h : k < xs.size) => xs[xs.size - 1 - k]'(by omega)) h := fun l => by
      induction l with
      | nil => intro _; rfl
      | cons k r ih =>
        intro h
        have hk := h k List.mem_cons_self
        have e2 : (((xs.size : Nat) : Int) - 1 + (k : Int) * (-1)).toNat = xs.size - 1 - k := by omega
        have e1 : xs[(((xs.size : Nat) : Int) - 1 + (k : Int) * (-1)).toNat]? = some (xs[xs.size - 1 - k]'(by omega)) := by
          rw [e2]
          exact Array.getElem?_eq_getElem _
        rw [List.filterMap_cons, e1, List.pmap_cons, ih fun k hk => h k (List.mem_cons_of_mem _ hk)]
    exact key _ _
  rw [e]
  by_cases hj : j < xs.size
  · rw [List.getElem?_eq_getElem (by simpa using hj), List.getElem?_eq_getElem (by simpa using hj)]
    congr 1
    simp [List.getElem_reverse]
  · rw [List.getElem?_eq_none (by simpa using hj), List.getElem?_eq_none (by simpa using hj)]
theorem getItem_tuple_back {t sl : Addr} {items : Array Value} {vl vu vs : Value} {Q : Value → Shared → Prop} (ht : IsTup s.heap t items) (hs : s.heap.IsSliceOf sl vl vu vs) (pl : IsPart vl none) (pu : IsPart vu none) (ps : IsPart vs (some (-1)))
    (h : Q (.ref s.heap.objs.size) { s with heap := s.heap.push { cls := .type "tuple", data := .seq items.toList.reverse.toArray } }) (hsz : items.size ≤ sizeLine) : wpAny (model prog w) A (getItem (.ref t) (.ref sl)) Q E s := by
  obtain ⟨os, hos, hcs, hds⟩ := id hs
  have isSl : s.TypeIs (.ref sl) "slice" := ⟨os, hos, hcs⟩
  unfold getItem
  try with_reducible refine wpAny_holding ?_
  first | refine wpAny_bind (wpAny_pure ?_) | skip
  refine wpAny_bind (wpAny_sequenceKey ht.typeIs (by decide) ?_)
  refine wpAny_bind (wpAny_callSpecial?_slot (name := Str.ofString "__getitem__") ht.typeIs PyProof.Rows.slot_tuple_getitem
    (wpAny_call_entry PyProof.Rows.slot_tuple_getitem ht.typeIs entry_tuple_getitem ?_ (args_tuple_getitem _ _)))
  show wpAny _ _ (Builtin.Tuple.tupleItemsOf (.ref t) >>= _) _ _ s
  refine wpAny_bind (tupleItemsOf_ ht ?_)
  refine wpAny_bind (wpAny_typeOf isSl ?_)
  rw [if_pos (by decide)]
  refine wpAny_bind (applied_back hs pl pu ps ?_)
  show wpAny _ _ (if (((items.size : Nat) : Int) - 1 == 0 && (-1 : Int) == 1 && items.size == items.size) = true then _ else _) _ _ s
  have no : ¬ ((((items.size : Nat) : Int) - 1 == 0 && (-1 : Int) == 1 && items.size == items.size) = true) := by simp
  rw [if_neg no, pick_back]
  have okS : sizeOk (.seq items.toList.reverse.toArray) := by
    show items.toList.reverse.toArray.size ≤ sizeLine
    simpa using hsz
  first
    | exact wpAny_bind (m := Builtin.Tuple.tupleExact _) (wpAny_newObj_type (wpAny_pure ⟨_, rfl, wpAny_pure h⟩) okS)
    | exact wpAny_bind (m := Builtin.Tuple.tupleExact _) (wpAny_newObj_type (wpAny_bind (wpAny_pure (wpAny_pure ⟨_, rfl, wpAny_pure h⟩))) okS)
    | exact wpAny_bind (wpAny_bind (m := Builtin.Tuple.tupleExact _) (wpAny_newObj_type (wpAny_pure (wpAny_pure ⟨_, rfl, wpAny_pure h⟩)) okS))
    | exact wpAny_bind (wpAny_bind (m := Builtin.Tuple.tupleExact _) (wpAny_newObj_type (wpAny_pure ⟨_, rfl, wpAny_pure h⟩) okS))
end
section
variable {γ : Type} {gd : Prop} {X : Cx} {P : Pm γ} {e : Expr} {te : TE} {φ : Fn γ}
def tRevT (K : PySem.W.Frag) (te : TE) : TE := fun σ H Q => te σ H fun x H1 => ∃ a xs, x = .ref a ∧ SqT K H1 a xs ∧ ∀ p, H1 p = none → Q (.ref p) (upd H1 p (.tup xs.reverse))
theorem pe_revT {k : Nat} {p1 p2 p3 pos : Pos} (he : PE X e te) : PE X (.Subscript e (.Slice none none (some (.UnaryOp .USub (.Constant (.int 1) k p1) p2)) p3) pos) (tRevT X.K te) := ⟨fun pins s σ H Q I h => by
  refine Subscript_ (thn (he.run pins s σ H _ I h) fun v s1 h1 => ?_)
  obtain ⟨x, H1, I1, r1, a, xs, rfl, hx, q⟩ := h1
  cases r1
  have minus : PO X (some (.UnaryOp .USub (.Constant (.int 1) k p1) p2)) (tPart (tUn (rU fun i => .int (-i)) (tC (.int 1)))) := po_some (pe_un un_neg pe_int)
  refine wpAny_Slice (thn (po_none.run pins s1 σ H1 (fun o G => o = none ∧ G = H1) I1 ⟨rfl, rfl⟩) fun vl s2 h2 => ?_)
  obtain ⟨o2, G2, I2, pl, rfl, rfl⟩ := h2
  refine thn (po_none.run pins s2 σ G2 (fun o G => o = none ∧ G = G2) I2 ⟨rfl, rfl⟩) fun vu s3 h3 => ?_
  obtain ⟨o3, G3, I3, pu, rfl, rfl⟩ := h3
  refine thn (minus.run pins s3 σ G3 (fun o G => o = some (-1) ∧ G = G3) I3 ⟨1, rfl, -1, rfl, rfl, rfl⟩) fun vs s4 h4 => ?_
  obtain ⟨o4, G4, I4, ps, rfl, rfl⟩ := h4
  have I5 : Inv X pins σ G4 { s4 with heap := s4.heap.push { cls := .type "slice", data := .fields #[vl, vu, vs] } } := I4.kept (t' := s4.toks) fun b ob q => Heap.get?_push_of_some _ q
  obtain ⟨its, r, ht, hz⟩ := I5.tuple hx
  have hlen := r.length
  show wpAny (model X.prog X.w) X.A (subscriptTail e (.Slice none none (some (.UnaryOp .USub (.Constant (.int 1) k p1) p2)) p3) (.ref a) (.ref s4.heap.objs.size)) (EP X pins σ Q) X.xe { s4 with heap := s4.heap.push { cls := .type "slice", data := .fields #[vl, vu, vs] } }
  refine tail_any (ops := [.ref a, .ref s4.heap.objs.size]) ht.typeIs (PyProof.Rows.slot_tuple_getitem.lookup) ?_ (by with_unfolding_all rfl)
  refine getItem_tuple_back ht (Heap.IsSliceOf.new _ vl vu vs) pl pu ps ?_ (by rw [List.size_toArray]; omega)
  refine ⟨.ref _, _, I5.laid (t' := s4.toks) (o := .tup xs.reverse) (fun b ob q => Heap.get?_push_of_some _ q) (Nat.le_refl _) ?_, rfl, q _ (I5.hok.fresh (Nat.le_refl _))⟩
  exact ⟨by rw [List.length_reverse]; exact hz, _, r.reverse, IsTup.new _ _⟩⟩
end
section
variable {γ : Type} {gd : Prop} {X : Cx} {P : Pm γ} {σ : L2.St} {H D H1 D1 H2 D2 H' D' : Hp} {ρ : Env} {g g1 g2 : γ} {e a b c : Expr} {φ ψ τ : Fn γ} {Φ Ψ : FnA γ} {t : TE} {pos : Pos} {Q : VK} {K : PySem.W.Frag}
/-- xs[::-1], a list or a tuple -/
def oRevA : SV → Option SV := fun x => match x with
  | .d (.tuple xs) => some (.d (.tuple xs.reverse))
  | x => (lstOf x).map fun xs => .l xs.reverse
def fRevA (φ : Fn γ) : Fn γ := fun ρ g => (φ ρ g).bind fun x g1 => .of (oRevA x) g1
theorem drev {k : Nat} {p1 p2 p3 : Pos} (he : DE X P e φ) (hK : X.K = P.K := by rfl) : DE X P (.Subscript e (.Slice none none (some (.UnaryOp .USub (.Constant (.int 1) k p1) p2)) p3) pos) (fRevA φ) := by
  refine ⟨fun pins s σ H Q I hw => ?_⟩
  obtain ⟨D, ρ, g, r, c⟩ := hw
  by_cases hq : ∃ xs g1, φ ρ g = .ok (.d (.tuple xs)) g1
  · obtain ⟨xs, g1, q⟩ := hq
    refine (pe_revT he).run pins s σ H Q I ?_
    refine tD_bind r c fun y g2 v H1 D1 e1 r1 gr vr c1 => ?_
    rw [q] at e1
    cases e1
    cases vr with
    | tup h1 h2 =>
      rename_i a vs
      rw [hK]
      refine ⟨a, vs, rfl, Sub.st r1.sub h1, fun p hp => ?_⟩
      have l := LG.newD (o := .tup vs.reverse) r1.sub hp
      exact Cont.done r1 c1 rfl l (Dp.tup (SqT.of upd_same) (DpAll.up l.dk _ _ (DpAll.rev h2)))
  · refine (drevl he hK).run pins s σ H Q I ⟨D, ρ, g, r, ?_⟩
    have e2 : fRev φ ρ g = fRevA φ ρ g := by
      unfold fRev fRevA
      cases w : φ ρ g with
      | ok y g1 =>
        simp only [Out.bind]
        cases y with
        | d x =>
          cases x with
          | tuple xs => exact absurd ⟨xs, g1, w⟩ hq
          | _ => rfl
        | _ => rfl
      | exc C fs g1 => rfl
      | stuck => rfl
    rw [e2]
    exact c
theorem dgN (i : Nat) {x : Str} (nd : X.N.Nodup) (hi : X.N[i]? = some x := by rfl) (hx : L2.Loc X.env.scope x := by first | exact Or.inl rfl | exact Or.inr rfl) (hf : X.fn x = true ∨ X.env.scope.names.lookup x = some .local := by first | exact .inl rfl | exact .inr rfl) : PG X (.Name x pos) (gName i) := pg_name nd hi hx hf
theorem tmT {K : PySem.W.Frag} {n : Nat} {gts : TGs} (h : TgsMono gts) : TgMono (gTup K n gts) := fun v σ H Q Q' hq ⟨a, xs, e, hs, hl, q⟩ => ⟨a, xs, e, hs, hl, h xs σ H Q Q' hq q⟩
theorem dcbg {id : String} {x : Str} {p : Pos} {es : List Expr} {r : List V → Hp → VK → Prop} {F : List SV → Option SV} (hc : CallR X (.builtin id) r) (ok : CrOk P.K r F) (hm : X.mg x = some (.builtin id)) (ha : DA X P (e :: es) Φ)
    (hg : Gl X x := by rfl) (hdb : (x == ("__debug__" : Str)) = false := by decide) (he : starEach (e :: es) X.env = (false, eval e X.env) :: starEach es X.env := by rfl)
    (hpl : (backTo pos (starEach es X.env)).any (·.1) = false := by rfl) : DE X P (.Call (.Name x p) (e :: es) [] pos) (fCB F Φ) :=
  PE.imp (pe_callBfun hc hg hm ha hdb he hpl) fun _ _ _ => tCB_of ok
/-- y = [..] of a comprehension -/
theorem dsetlc {elt tg iter : Expr} {ifs : List Expr} {scope : Scope} {own : List (Str × Nat)} {wi : TI} {gt : TG} {tt : TT} {te : TE} {i : Nat} {y : Str} {py spos : Pos} {φ : Fn γ} (hc : X.calm = true) (nd : X.N.Nodup) (hi : X.N[i]? = some y) (hl : List.lookup y X.env.scope.names = some NameKind.local)
    (hs : swapsWith (elt.ListComp [{ target := tg, iter := iter, ifs := ifs, is_async := 0 }] scope pos) (some (Expr.Name y py)) spos.line X.env = pure true) (hp : PI X tg iter wi) (ok : BlkOk X.N X.env.scope scope own)
    (h1 : ∀ (s : Shared) (H : Hp) (C : Addr) (cl : List (Str × Addr)) (fp : List Addr), PG (X.blk s H scope (compEnvC scope cl C X.env) fp) tg gt) (h2 : ∀ (s : Shared) (H : Hp) (C : Addr) (cl : List (Str × Addr)) (fp : List Addr), PTs (X.blk s H scope (compEnvC scope cl C X.env) fp) ifs tt)
    (h3 : ∀ (s : Shared) (H : Hp) (C : Addr) (cl : List (Str × Addr)) (fp : List Addr), PE (X.blk s H scope (compEnvC scope cl C X.env) fp) elt te) (hfs : ∀ x, foldedSetIterable iter X.env x = pure x) (hq : ∀ σ H Q, tD P φ σ H Q → tLc wi gt tt te (own.map (·.2)) σ H Q) :
    DS X P (Stmt.Assign [Expr.Name y py] (elt.ListComp [{ target := tg, iter := iter, ifs := ifs, is_async := 0 }] scope pos) spos) (sAsg i φ) :=
  PS.imp (ps_setLc hc nd hi hl hs hp ok h1 h2 h3 hfs) fun E σ H q => by
    obtain ⟨D, ρ, g, r, c⟩ := q
    show tLc wi gt tt te (own.map (·.2)) σ H fun x H1 => gName i x σ H1 E.nx
    have := asg_of (i := i) (E := E) (φ := φ) (σ := σ) (H := H) ⟨D, ρ, g, r, c⟩
    exact hq σ H _ this
/-- zip of two lists or two tuples; enumerate of a list -/
def iZipF (Φ : FnA γ) : FnI γ := fun ρ g => (Φ ρ g).bindI fun ys g1 => match ys with
  | [.d (.tuple xs), .d (.tuple zs)] => .ok ((xs.zip zs).map fun p => .tuple [p.1, p.2]) g1
  | [.d (.list xs), .d (.list zs)] => .ok ((xs.zip zs).map fun p => .tuple [p.1, p.2]) g1
  | _ => .stuck
theorem zip_items {vs us : List V} {xs zs : List PyData} (h1 : DpAll K D vs xs) (h2 : DpAll K D us zs) {i : Nat} {y : PyData} (e : ((xs.zip zs).map fun p => PyData.tuple [p.1, p.2])[i]? = some y) : ∃ a b va vb, y = .tuple [a, b] ∧ vs[i]? = some va ∧ us[i]? = some vb ∧ Dp K D va a ∧ Dp K D vb b := by
  rw [List.getElem?_map, Option.map_eq_some_iff] at e
  obtain ⟨⟨a, b⟩, e1, rfl⟩ := e
  rw [List.getElem?_zip_eq_some] at e1
  obtain ⟨va, k1, d1⟩ := DpAll.get h1 e1.1
  obtain ⟨vb, k2, d2⟩ := DpAll.get h2 e1.2
  exact ⟨a, b, va, vb, rfl, k1, k2, d1, d2⟩
theorem dizip {elts : List Expr} {kk : Nat} {tpos p : Pos} (hg : Gl X "zip") (hm : X.mg "zip" = none) (ha : DA X P [a, b] Φ) (hK : X.K = P.K := by rfl) (hs : starEach [a, b] X.env = (false, eval a X.env) :: starEach [b] X.env := by rfl) (hpl : (backTo pos (starEach [b] X.env)).any (·.1) = false := by rfl) :
    DI X P (.Tuple elts kk tpos) (.Call (.Name "zip" p) [a, b] [] pos) (iZipF Φ) := by
  refine ⟨fun pins s σ H R I hw => (RZ.pi_zipA hg hm ha hs hpl).run pins s σ H R I ?_⟩
  obtain ⟨D, ρ, g, r, c⟩ := hw
  refine tDA_bindI r c fun ys g1 vs H1 D1 _ r1 gr vr c1 => ?_
  rw [hK]
  match ys, vr, c1 with
  | [.d (.tuple xs), .d (.tuple zs)], .cons (v := va) h1 (.cons (v := vb) h2 .nil), c1 =>
    cases h1 with
    | tup s1 d1 =>
      cases h2 with
      | tup s2 d2 =>
        rename_i a1 us1 b1 us2
        refine ⟨a1, b1, us1, us2, rfl, .inr ⟨Sub.st r1.sub s1, Sub.st r1.sub s2, c1 _ _ _ r1 .refl ⟨fun i y H' D' e q1 q2 => ?_, fun i H' D' e q1 q2 => ⟨us1, us2, Sub.st (q1.trans q2) s1, Sub.st (q1.trans q2) s2, ?_⟩⟩⟩⟩
        · obtain ⟨x1, x2, v1, v2, rfl, k1, k2, m1, m2⟩ := zip_items d1 d2 e
          refine ⟨⟨us1, us2, v1, v2, Sub.st (q1.trans q2) s1, Sub.st (q1.trans q2) s2, k1, k2⟩, fun x H'' z => ?_⟩
          obtain ⟨T, w1, w2, rfl, hT, rfl, g1', g2'⟩ := z
          have e1 := g1' us1 (Sub.st (q1.trans q2) s1)
          have e2 := g2' us2 (Sub.st (q1.trans q2) s2)
          rw [k1] at e1
          rw [k2] at e2
          cases e1
          cases e2
          have l := LG.newD (o := .tup [v1, v2]) q2 hT
          exact ⟨_, l, Dp.tup (SqT.of upd_same) (.cons (Dp.up (q1.trans l.dk) _ _ m1) (.cons (Dp.up (q1.trans l.dk) _ _ m2) .nil))⟩
        · rw [DpAll.len d1, DpAll.len d2]
          simp at e
          omega
  | [.d (.list xs), .d (.list zs)], .cons (v := va) h1 (.cons (v := vb) h2 .nil), c1 =>
    cases h1 with
    | lst s1 d1 =>
      cases h2 with
      | lst s2 d2 =>
        rename_i a1 us1 b1 us2
        refine ⟨a1, b1, us1, us2, rfl, .inl ⟨Sub.sl r1.sub s1, Sub.sl r1.sub s2, c1 _ _ _ r1 .refl ⟨fun i y H' D' e q1 q2 => ?_, fun i H' D' e q1 q2 => ⟨us1, us2, Sub.sl (q1.trans q2) s1, Sub.sl (q1.trans q2) s2, ?_⟩⟩⟩⟩
        · obtain ⟨x1, x2, v1, v2, rfl, k1, k2, m1, m2⟩ := zip_items d1 d2 e
          refine ⟨⟨us1, us2, v1, v2, Sub.sl (q1.trans q2) s1, Sub.sl (q1.trans q2) s2, k1, k2⟩, fun x H'' z => ?_⟩
          obtain ⟨T, w1, w2, rfl, hT, rfl, g1', g2'⟩ := z
          have e1 := g1' us1 (Sub.sl (q1.trans q2) s1)
          have e2 := g2' us2 (Sub.sl (q1.trans q2) s2)
          rw [k1] at e1
          rw [k2] at e2
          cases e1
          cases e2
          have l := LG.newD (o := .tup [v1, v2]) q2 hT
          exact ⟨_, l, Dp.tup (SqT.of upd_same) (.cons (Dp.up (q1.trans l.dk) _ _ m1) (.cons (Dp.up (q1.trans l.dk) _ _ m2) .nil))⟩
        · rw [DpAll.len d1, DpAll.len d2]
          simp at e
          omega
end

/-! ### defs of the text, by name -/
structure Bi (mg : Str → Option Value) : Prop where
  len : mg "len" = none
  all : mg "all" = none
  any : mg "any" = none
  repr : mg "repr" = none
  abs : mg "abs" = none
  max : mg "max" = none
  min : mg "min" = none
  divmod : mg "divmod" = none
  int : mg "int" = none
  bool : mg "bool" = none
  str : mg "str" = none
  tuple : mg "tuple" = none
  list : mg "list" = none
  isinstance : mg "isinstance" = none
  range : mg "range" = none
  zip : mg "zip" = none
  enumerate : mg "enumerate" = none
  sorted : mg "sorted" = none
  set : mg "set" = none
  sum : mg "sum" = none
/-- a def of the top, as the written part has it -/
structure Here (K : PySem.W.Frag) (mg : Str → Option Value) (x : Str) (st : Stmt) (ps : List Str) : Prop where
  ex : ∃ (f : Addr) (fd : FuncData), mg x = some (.ref f) ∧ Fun K x x st f fd ∧ L2.Binds K fd ps []
structure Dfn (gd : Prop) (P : Program) (w : World) (K : PySem.W.Frag) (mg : Str → Option Value) (base : Heap) (k : Nat) (x : Str) (n : Nat) (fn : List PyData → Out Unit) : Prop where
  ex : ∃ (f : Addr) (fd : FuncData) (ps : List Str), mg x = some (.ref f) ∧ PySem.W.keepIn K (.ref f) = true ∧ L2.Binds K fd ps [] ∧ FnG gd P w K mg base k f fd ps (spP K n fn)
structure DfnS {γ ι : Type} (gd : Prop) (P : Program) (w : World) (K : PySem.W.Frag) (mg : Str → Option Value) (base : Heap) (Fm : ι → Rs γ) (k : Nat) (x : Str) (n : Nat) (fn : List SV → γ → Out γ) : Prop where
  ex : ∃ (f : Addr) (fd : FuncData) (ps : List Str), mg x = some (.ref f) ∧ PySem.W.keepIn K (.ref f) = true ∧ L2.Binds K fd ps [] ∧ FnG gd P w K mg base k f fd ps (spS Fm K n fn)
theorem Dfn.eqf {gd : Prop} {P : Program} {w : World} {K : PySem.W.Frag} {mg : Str → Option Value} {base : Heap} {k n : Nat} {x : Str} {fn fn' : List PyData → Out Unit} (h : Dfn gd P w K mg base k x n fn) (e : ∀ ds, ds.length = n → fn ds = fn' ds) : Dfn gd P w K mg base k x n fn' := by
  obtain ⟨f, fd, ps, h1, h2, h3, h4⟩ := h.ex
  exact ⟨f, fd, ps, h1, h2, h3, h4.eqf e⟩
theorem DfnS.eqf {gd : Prop} {γ ι : Type} {P : Program} {w : World} {K : PySem.W.Frag} {mg : Str → Option Value} {base : Heap} {Fm : ι → Rs γ} {k n : Nat} {x : Str} {fn fn' : List SV → γ → Out γ} (h : DfnS gd P w K mg base Fm k x n fn) (e : ∀ ys g, ys.length = n → fn ys g = fn' ys g) : DfnS gd P w K mg base Fm k x n fn' := by
  obtain ⟨f, fd, ps, h1, h2, h3, h4⟩ := h.ex
  exact ⟨f, fd, ps, h1, h2, h3, h4.eqfS e⟩
section
variable {gd : Prop} {γ ι : Type} {Fm : ι → Rs γ} {X : Cx} {P : Pm γ} {e : Expr} {Φ : FnA γ} {pos : Pos}
theorem dcallD {k : Nat} {n : Nat} {fn : List PyData → Out Unit} {x : Str} {p : Pos} {es : List Expr} (tk : Takes X P.W) (hG : gd → X.A.guards = some []) (F : Dfn gd X.prog X.w X.K X.mg X.base k x n fn) (hr : Room k X.A) (ha : DA X P (e :: es) Φ) (hK : X.K = P.K := by rfl) (hg : Gl X x := by rfl)
    (hdb : (x == ("__debug__" : Str)) = false := by decide) (he : starEach (e :: es) X.env = (false, eval e X.env) :: starEach es X.env := by rfl) (hpl : (backTo pos (starEach es X.env)).any (·.1) = false := by rfl) : DE X P (.Call (.Name x p) (e :: es) [] pos) (fCall n fn Φ) := by
  obtain ⟨f, fd, ps, h1, h2, h3, h4⟩ := F.ex
  rw [hK] at h4
  exact dcall tk hG (by rw [hK]; exact h4) hr h1 h2 h3 ha hg hdb he hpl
theorem dcallDS {k : Nat} {n : Nat} {fn : List SV → γ → Out γ} {x : Str} {p : Pos} {es : List Expr} {i : ι} (hi : P.rs = Fm i) (tk : Takes X P.W) (hG : gd → X.A.guards = some []) (F : DfnS gd X.prog X.w X.K X.mg X.base Fm k x n fn) (hr : Room k X.A) (ha : DA X P (e :: es) Φ) (hK : X.K = P.K := by rfl) (hg : Gl X x := by rfl)
    (hdb : (x == ("__debug__" : Str)) = false := by decide) (he : starEach (e :: es) X.env = (false, eval e X.env) :: starEach es X.env := by rfl) (hpl : (backTo pos (starEach es X.env)).any (·.1) = false := by rfl) : DE X P (.Call (.Name x p) (e :: es) [] pos) (fCallS n fn Φ) := by
  obtain ⟨f, fd, ps, h1, h2, h3, h4⟩ := F.ex
  rw [hK] at h4
  exact dcallS hi tk hG (by rw [hK]; exact h4) hr h1 h2 h3 ha hg hdb he hpl
end
end Dn

set_option Elab.async false
set_option linter.all false
set_option maxRecDepth 100000
set_option maxHeartbeats 1000000
/-! a for around yields -/
namespace Dn
open PySem PySem.Spec PyProof.Rows L2
section
variable {prog : Program} {w : World} {M : Model} {A : Around} {R : GenEnd} {Y : Protocol} {n : Nat} {s₀ : Shared} {c : Code} {fs : List PySem.Frame} {s : Shared} {env : PySem.Env}
  {K : Flow → Sem PySem.Fin} {J : Value → Sem PySem.Fin} {gd : Bool → Bool} {lv : List Value → List Value}
theorem sg_For {target iter : Expr} {body orelse : List Stmt} {pos : Pos} (hs : ∀ x, foldedSetIterable iter env x = pure x)
    (h : wpAny M (A.over c fs) (eval iter env) (fun x s1 => wpAny M (A.over c fs) (pyIter x) (fun it s2 => ∀ p lv', Seg M A R Y n s₀ (.forLoop target it body orelse env) (M.den (.forLoop target it body orelse env))
      (.ret (fun r => ((match r with | .ok f => (.pure f : Sem Flow) | .error e => .raise e).onRaise (cameBack env)).wrap K J gd lv) none (gd false) lv' c p [] :: fs) s2)
      (fun x s' => Seg M A R Y n s₀ c (J x) fs s') s1) (fun x s' => Seg M A R Y n s₀ c (J x) fs s') s) :
    Seg M A R Y n s₀ c ((exec (.For target iter body orelse pos) env).wrap K J gd lv) fs s := by
  show Seg M A R Y n s₀ c (.at pos fun _ => (eval iter env >>= fun x => foldedSetIterable iter env x >>= fun x => (standAt iter.pos >>= fun _ => holding [x] (pyIter x) >>= fun it => runOwn (.forLoop target it body orelse env) env)).wrap K J gd lv) fs s
  refine seg_at ?_
  rw [Sem.bind_eq_wrap', Sem.wrap_wrap]
  refine seg_wrap (wpAny_mono h (fun x s1 h1 => ?_) fun _ _ h' => h')
  show Seg M A R Y n s₀ c ((foldedSetIterable iter env x >>= fun x => (standAt iter.pos >>= fun _ => holding [x] (pyIter x) >>= fun it => runOwn (.forLoop target it body orelse env) env)).wrap K J gd lv) fs s1
  rw [hs x]
  show Seg M A R Y n s₀ c (.at iter.pos fun _ => (holding [x] (pyIter x) >>= fun it => runOwn (.forLoop target it body orelse env) env).wrap K J gd lv) fs s1
  refine seg_at ?_
  rw [Sem.bind_eq_wrap', Sem.wrap_wrap]
  refine seg_wrap (wpAny_holding (wpAny_mono h1 (fun it s2 h2 => ?_) fun _ _ h' => h'))
  exact seg_call fun p => h2 p _
abbrev noteW (env : PySem.Env) (e : Value) : Sem PySem.Fin := (do noteFrame e env; theTreesLotGoes e : Sem Unit).wrap (fun _ => .raise e) .raise id id
theorem sg_forLoop {target : Expr} {it : Value} {body : List Stmt}
    (h : wpAny (model prog w) (A.over (.forLoop target it body [] env) fs) (pyNext it) (fun r s1 => match r with
        | none => Seg (model prog w) A R Y n s₀ (.block [] env) ((model prog w).den (.block [] env)) fs s1
        | some v => wpAny (model prog w) (A.over (.forLoop target it body [] env) fs) (letOwnedTupleGo target it v) (fun _ s2 => wpAny (model prog w) (A.over (.forLoop target it body [] env) fs) (assign target env v) (fun _ s3 =>
          Seg (model prog w) A R Y n s₀ (.forLoop target it body [] env) ((execs body env).wrap (fun f => match f with
            | .next | .cont => .pure (.again (.forLoop target it body [] env))
            | .brk => .pure (.done .next)
            | .ret v => .pure (.done (.ret v))) (noteW env) id id) fs s3)
          (fun x s' => Seg (model prog w) A R Y n s₀ (.forLoop target it body [] env) (noteW env x) fs s') s2)
          (fun x s' => Seg (model prog w) A R Y n s₀ (.forLoop target it body [] env) (noteW env x) fs s') s1)
      (fun x s' => Seg (model prog w) A R Y n s₀ (.forLoop target it body [] env) (noteW env x) fs s') s) :
    Seg (model prog w) A R Y n s₀ (.forLoop target it body [] env) ((model prog w).den (.forLoop target it body [] env)) fs s := by
  show Seg _ A R Y n s₀ _ ((forTurn target it body [] env).onRaise (fun x => do noteFrame x env; theTreesLotGoes x)) fs s
  rw [Sem.onRaise_eq_wrap]
  have hN : ∀ e, ((do noteFrame e env; theTreesLotGoes e : Sem Unit).bind fun _ => (.raise e : Sem PySem.Fin)) = noteW env e := fun e => Sem.bind_eq_wrap _ _
  simp only [hN]
  show Seg _ A R Y n s₀ _ (.at target.pos fun _ => ((pyNext it).onRaise (fun _ => standAt { target.pos with line := 0 }) >>= fun r => match r with
    | none => again (.block [] env)
    | some v => letOwnedTupleGo target it v >>= fun _ => assign target env v >>= fun _ => execs body env >>= fun f => match f with
      | .next | .cont => again (.forLoop target it body [] env)
      | .brk => pure (.done .next)
      | .ret v => pure (.done (.ret v))).wrap .pure (noteW env) id id) fs s
  refine seg_at ?_
  rw [Sem.bind_eq_wrap', Sem.wrap_wrap, Sem.onRaise_eq_wrap, Sem.wrap_wrap]
  refine seg_wrap (wpAny_mono h (fun r s1 h1 => ?_) fun x s' hx => ?_)
  · cases r with
    | none => exact seg_again rfl h1
    | some v =>
      show Seg _ A R Y n s₀ _ ((letOwnedTupleGo target it v >>= fun _ => assign target env v >>= fun _ => execs body env >>= fun f => match f with
        | .next | .cont => again (.forLoop target it body [] env)
        | .brk => pure (.done .next)
        | .ret v => pure (.done (.ret v))).wrap .pure (noteW env) id id) fs s1
      rw [Sem.bind_eq_wrap', Sem.wrap_wrap]
      refine seg_wrap (wpAny_mono h1 (fun _ s2 h2 => ?_) fun _ _ h' => h')
      rw [Sem.bind_eq_wrap', Sem.wrap_wrap]
      refine seg_wrap (wpAny_mono h2 (fun _ s3 h3 => ?_) fun _ _ h' => h')
      rw [Sem.bind_eq_wrap', Sem.wrap_wrap]
      rw [Sem.wrap_congr (execs body env) _ _ (K' := fun f => match f with
            | .next | .cont => .pure (.again (.forLoop target it body [] env))
            | .brk => .pure (.done .next)
            | .ret v => .pure (.done (.ret v))) (H' := noteW env)
        (fun f => by cases f <;> rfl) (fun e => show (Sem.wrap Sem.pure (noteW env) id id (.raise e) : Sem PySem.Fin) = noteW env e from rfl)]
      exact h3
  · show Seg _ A R Y n s₀ _ (.at { target.pos with line := 0 } fun _ => noteW env x) fs s'
    exact seg_at hx
end
section
variable {X : Cx} {tg iter : Expr} {body : List Stmt} {pos : Pos}
/-- a for of a generator: what a turn may want -/
def tGFor (wi : TI) (g : TG) (tb : TGn) : TGn := fun D ys σ H => wi σ H fun J H2 => ∃ W : Nat → Nat → List V → L2.St → Hp → Prop, (∃ m, W 0 m ys σ H2) ∧ ∀ i m ys σ H, W i m ys σ H →
  (J.stop i H ∧ D.nx ys σ H) ∨ (J.go i H ∧ ∃ N : List V → L2.St → Hp → Prop, (∀ ys' σ' H', N ys' σ' H' → ∃ m', m' < m ∧ W (i + 1) m' ys' σ' H') ∧ ∀ x H', J.yld i H x H' →
    g x σ H' fun σ2 H3 => tb { D with nx := N, ct := N, bk := D.nx } ys σ2 H3)
theorem gs_for {wi : TI} {g : TG} {tb : TGn} (hp : PassesOwn (model X.prog X.w) X.A X.env X.xe) (hc : X.calm = true) (hi : PI X tg iter wi) (hg : PG X tg g) (hb : GSs X body tb)
    (hs : ∀ x, foldedSetIterable iter X.env x = pure x := by intro _; rfl) : GS X (.For tg iter body [] pos) (tGFor wi g tb) := by
  refine ⟨fun A S ip R n ys s₀ c fs K J gd lv s σ H D gc hn k hI ht => ?_⟩
  refine sg_For hs ?_
  rw [gc.over]
  obtain ⟨acc, cc, r, I⟩ := hI
  refine wpAny_mono (hi.run ((S, lstObj acc cc) :: ip) s σ H _ I ht) (fun v s1 h1 => ?_) fun x s' hx => k.exc n s₀ x s' hx
  refine wpAny_mono h1 (fun itv s2 h2 => ?_) fun x s' hx => k.exc n s₀ x s' hx
  obtain ⟨it, fp, tn, Ji, H2, e, I2, T, st2, f2, W, ⟨m0, w0⟩, turn⟩ := h2
  subst e
  intro p lv'
  have hSf : ∀ b ∈ fp, b ≠ S := fun b hb e => (f2 b hb).2.2.2.2.2 (S, lstObj acc cc) (List.mem_append_right _ List.mem_cons_self) e.symm
  have hSip : ∀ b ∈ fp, ∀ q ∈ X.pn ++ ip, q.1 ≠ b := fun b hb q hq => (f2 b hb).2.2.2.2.2 q ((List.mem_append.mp hq).elim (List.mem_append_left _) fun z => List.mem_append_right _ (List.mem_cons_of_mem _ z))
  have gl := fun (kk : Result → Sem PySem.Fin) => gc_loop (k := kk) (c' := .forLoop tg (.ref it) body [] X.env) (l := lv') (kp := []) (p := p) gc rfl rfl
  have gb := fun (kk : Result → Sem PySem.Fin) => gc_loop (k := kk) (c' := .block [] X.env) (l := lv') (kp := []) (p := p) gc rfl rfl
  have stat : ∀ {H' : Hp} {ac : Array Value} {c' : Nat}, (∀ b ∈ fp, H' b = none) → ∀ b ∈ fp, FpOk X ((S, lstObj ac c') :: ip) H' b := fun {H' ac c'} hn b hb => by
    refine ⟨hn b hb, (f2 b hb).2.1, (f2 b hb).2.2.1, (f2 b hb).2.2.2.1, (f2 b hb).2.2.2.2.1, fun q hq => ?_⟩
    rcases List.mem_append.mp hq with z | z
    · exact hSip b hb q (List.mem_append_left _ z)
    · rcases List.mem_cons.mp z with z | z
      · rw [z]; exact (hSf b hb).symm
      · exact hSip b hb q (List.mem_append_right _ z)
  have loop : ∀ (m i n : Nat) (ys : List V) (s₀ s : Shared) (σ : L2.St) (H : Hp), n + ys.length = sizeLine → W i m ys σ H → GI X S ip ys σ H s → tn i s.heap → (∀ b ∈ fp, H b = none) →
      Seg (model X.prog X.w) A R (GY X S) n s₀ (.forLoop tg (.ref it) body [] X.env) ((model X.prog X.w).den (.forLoop tg (.ref it) body [] X.env))
        (.ret (fun r => ((match r with | .ok f => (.pure f : Sem Flow) | .error e => .raise e).onRaise (cameBack X.env)).wrap K J gd lv) none (gd false) lv' c p [] :: fs) s := by
    intro m
    induction m using Nat.strongRecOn with
    | ind m ih =>
      intro i n ys s₀ s σ H hn w hI st fr
      have ee : ∀ (n : Nat) (s₀ : Shared) (x : Value) (s' : Shared), X.xe x s' → Seg (model X.prog X.w) A R (GY X S) n s₀ (.forLoop tg (.ref it) body [] X.env) (noteW X.env x)
          (.ret (fun r => ((match r with | .ok f => (.pure f : Sem Flow) | .error e => .raise e).onRaise (cameBack X.env)).wrap K J gd lv) none (gd false) lv' c p [] :: fs) s' := fun n s₀ x s' hx => by
        refine seg_wrap ?_
        rw [(gl _).over]
        refine wpAny_bind (wpAny_mono (hp x s' hx) (fun _ s'' hcb => wpAny_theTreesLotGoes ?_) fun y s'' hcb => ?_)
        · exact seg_leaf (.error x) (seg_cameBack gc k hcb)
        · exact seg_leaf (.error y) (seg_cameBack gc k hcb)
      refine sg_forLoop ?_
      rw [(gl _).over]
      obtain ⟨acc, cc, r, I⟩ := hI
      rcases turn i m ys σ H w with ⟨stop, qn⟩ | ⟨go, N, hN, step⟩
      · refine wpAny_mono (T.done X rfl rfl rfl hc i _ s σ H X.xe I (stat fr) st stop) (fun rr s4 h4 => ?_) fun x s' hx => ee n s₀ x s' hx
        obtain ⟨hr, I4⟩ := h4
        subst hr
        exact seg_leaf (.ok .next) (k.ok n ys s₀ s4 .next hn ⟨σ, H, ⟨acc, cc, r, I4⟩, qn⟩)
      · refine wpAny_mono (T.item X rfl rfl rfl hc i _ s σ H X.xe I (stat fr) st go) (fun rr s4 h4 => ?_) fun x s' hx => ee n s₀ x s' hx
        obtain ⟨u, hr, h4⟩ := h4
        subst hr
        refine wpAny_mono h4 (fun _ s5 h5 => ?_) fun x s' hx => ee n s₀ x s' hx
        obtain ⟨x, H5, I5, r5, y5, st5, fr5⟩ := h5
        have I5' := I5.pinned (stat fr5) (T.obj _ _ st5)
        refine wpAny_mono (hg.run _ s5 σ H5 x u _ I5' r5 (step x H5 y5)) (fun _ s6 h6 => ?_) fun x s' hx => ee n s₀ x s' hx
        obtain ⟨σ6, H6, I6, q6⟩ := h6
        have gl' : ∀ kk, GC X S (ip ++ pinsAt fp s5.heap) A (.forLoop tg (.ref it) body [] X.env) (.ret kk none (gd false) lv' c p [] :: fs) id := fun kk => ⟨gc.pn, fun q hq => by
            rcases List.mem_append.mp hq with z | z
            · exact gc.ip q z
            · obtain ⟨b, hb, e⟩ : ∃ b ∈ fp, q.1 = b := by
                unfold pinsAt at z
                obtain ⟨b, hb, z⟩ := List.mem_filterMap.mp z
                refine ⟨b, hb, ?_⟩
                cases q' : s5.heap.get? b with
                | none => rw [q'] at z; cases z
                | some o => rw [q'] at z; cases z; rfl
              rw [e]; exact hSf b hb, (gl kk).apart, (gl kk).over, (gl kk).split, (gl kk).guard, (gl kk).gd⟩
        have again : ∀ {n' : Nat} {ys' : List V} {s₀' s7 : Shared} {σ7 : L2.St} {H7 : Hp}, n' + ys'.length = sizeLine → GI X S (ip ++ pinsAt fp s5.heap) ys' σ7 H7 s7 → N ys' σ7 H7 → Seg (model X.prog X.w) A R (GY X S) n' s₀' (.forLoop tg (.ref it) body [] X.env) (.pure (.again (.forLoop tg (.ref it) body [] X.env)))
            (.ret (fun r => ((match r with | .ok f => (.pure f : Sem Flow) | .error e => .raise e).onRaise (cameBack X.env)).wrap K J gd lv) none (gd false) lv' c p [] :: fs) s7 := fun {n' ys' s₀' s7 σ7 H7} hn' I7 n7 => by
          obtain ⟨m', hm, w7⟩ := hN ys' σ7 H7 n7
          obtain ⟨acc7, c7, r7, I7⟩ := I7
          have pin7 : ∀ b ∈ fp, ∀ o, s5.heap.get? b = some o → (b, o) ∈ X.pn ++ ((S, lstObj acc7 c7) :: (ip ++ pinsAt fp s5.heap)) := fun b hb o e => List.mem_append_right _ (List.mem_cons_of_mem _ (List.mem_append_right _ (mem_pinsAt hb e)))
          refine seg_again rfl (ih m' hm (i + 1) n' ys' s₀' s7 σ7 H7 hn' w7 ⟨acc7, c7, r7, I7.pins_of fun q hq => I7.pin q ?_⟩ (T.keep _ _ _ st5 fun b hb o e => (I7.pin (b, o) (pin7 b hb o e)).1) fun b hb => ?_)
          · rcases List.mem_cons.mp hq with z | z
            · rw [z]; exact List.mem_append_right _ List.mem_cons_self
            · exact List.mem_append_right _ (List.mem_cons_of_mem _ (List.mem_append_left _ z))
          · obtain ⟨o, e, d⟩ := T.obj _ _ st5 b hb
            exact (I7.pin (b, o) (pin7 b hb o e)).2.1
        refine hb.run A S (ip ++ pinsAt fp s5.heap) R n ys s₀ _ _ _ _ id id s6 σ6 H6 { D with nx := N, ct := N, bk := D.nx } (gl' _) hn ⟨fun n' ys' s₀' s7 f hn' hs => ?_, fun n' s₀' x s7 hx => ee n' s₀' x s7 hx⟩ ⟨acc, cc, r, I6⟩ q6
        have less : ∀ {ys' : List V} {σ7 : L2.St} {H7 : Hp}, GI X S (ip ++ pinsAt fp s5.heap) ys' σ7 H7 s7 → GI X S ip ys' σ7 H7 s7 := fun {ys' σ7 H7} h => by
          obtain ⟨a7, c7, r7, I7⟩ := h
          refine ⟨a7, c7, r7, I7.pins_of fun q hq => I7.pin q ?_⟩
          rcases List.mem_cons.mp hq with z | z
          · rw [z]; exact List.mem_append_right _ List.mem_cons_self
          · exact List.mem_append_right _ (List.mem_cons_of_mem _ (List.mem_append_left _ z))
        cases f with
        | next => obtain ⟨σ7, H7, I7, n7⟩ := hs; exact again hn' I7 n7
        | cont => obtain ⟨σ7, H7, I7, n7⟩ := hs; exact again hn' I7 n7
        | brk => obtain ⟨σ7, H7, I7, q7⟩ := hs; exact seg_leaf (.ok .next) (k.ok n' ys' s₀' s7 .next hn' ⟨σ7, H7, less I7, q7⟩)
        | ret v => obtain ⟨x7, σ7, H7, I7, r7, q7⟩ := hs; exact seg_leaf (.ok (.ret v)) (k.ok n' ys' s₀' s7 (.ret v) hn' ⟨x7, σ7, H7, less I7, r7, q7⟩)
  exact loop m0 0 n ys s₀ s2 σ H2 hn w0 ⟨acc, cc, r, I2⟩ st2 fun b hb => (f2 b hb).1
end
end Dn

set_option Elab.async false
set_option linter.all false
set_option autoImplicit false
set_option maxRecDepth 100000
set_option maxHeartbeats 1000000
/-! generators over plain data: what is out so far is a list of data -/
namespace Dn
open PySem PySem.Spec PyProof.Rows L2
abbrev GFnD := SFn (List PyData)
def NxG (P : Pm Unit) (D : Hp) (ρ' : Env) (zs : List PyData) (R : List V → L2.St → Hp → Prop) : Prop := ∀ ys σ' H' D', Rep P σ' H' D' ρ' () → Sub D D' → DpAll P.K D' ys zs → R ys σ' H'
def ContG (P : Pm Unit) (D : Hp) (o : SOut (List PyData)) (E : GEnds) : Prop := match o with
  | .next ρ' zs => NxG P D ρ' zs E.nx
  | .brk ρ' zs => NxG P D ρ' zs E.bk
  | .cont ρ' zs => NxG P D ρ' zs E.ct
  | .exc C fs ρ' _ => ExcS P D C fs ρ' ()
  | _ => False
def tSG (P : Pm Unit) (ψ : GFnD) : TGn := fun E ys σ H => ∃ D ρ zs, Rep P σ H D ρ () ∧ DpAll P.K D ys zs ∧ ContG P D (ψ ρ zs) E
abbrev GD (X : Cx) (P : Pm Unit) (st : Stmt) (ψ : GFnD) : Prop := GS X st (tSG P ψ)
abbrev GDs (X : Cx) (P : Pm Unit) (st : List Stmt) (ψ : GFnD) : Prop := GSs X st (tSG P ψ)
section
variable {X : Cx} {P : Pm Unit} {st : Stmt} {rest : List Stmt} {D D1 D' : Hp} {e : Expr} {pos yp : Pos} {φ : Fn Unit} {ψ : SFn Unit} {χ χ1 χ2 : GFnD}
theorem gs_weak {t t' : TGn} (h : GS X st t) (i : ∀ E ys σ H, t' E ys σ H → t E ys σ H) : GS X st t' := ⟨fun A S ip R n ys s₀ c fs K J gd lv s σ H E gc hn k I q => h.run A S ip R n ys s₀ c fs K J gd lv s σ H E gc hn k I (i E ys σ H q)⟩
theorem gss_weak {t t' : TGn} (h : GSs X rest t) (i : ∀ E ys σ H, t' E ys σ H → t E ys σ H) : GSs X rest t' := ⟨fun A S ip R n ys s₀ c fs K J gd lv s σ H E gc hn k I q => h.run A S ip R n ys s₀ c fs K J gd lv s σ H E gc hn k I (i E ys σ H q)⟩
theorem ContG.back {o : SOut (List PyData)} {E : GEnds} (s : Sub D D1) (h : ContG P D o E) : ContG P D1 o E := by
  cases o with
  | next ρ' zs => exact fun ys σ' H' D' r s' d => h ys σ' H' D' r (s.trans s') d
  | brk ρ' zs => exact fun ys σ' H' D' r s' d => h ys σ' H' D' r (s.trans s') d
  | cont ρ' zs => exact fun ys σ' H' D' r s' d => h ys σ' H' D' r (s.trans s') d
  | exc C fs ρ' zs => exact fun σ' d vfs H' D' r s' => h σ' d vfs H' D' r (s.trans s')
  | ret y zs => exact h
  | stuck => exact h
/-- a statement that hands nothing out -/
def gLift (ψ : SFn Unit) : GFnD := fun ρ zs => match ψ ρ () with
  | .next ρ' _ => .next ρ' zs
  | .brk ρ' _ => .brk ρ' zs
  | .cont ρ' _ => .cont ρ' zs
  | .exc C fs ρ' _ => .exc C fs ρ' zs
  | _ => .stuck
theorem lift_of {E : GEnds} {ys : List V} {σ : L2.St} {H : Hp} (h : tSG P (gLift ψ) E ys σ H) : tPlain (tS P ψ) E ys σ H := by
  obtain ⟨D, ρ, zs, r, dz, c⟩ := h
  refine ⟨D, ρ, (), r, ?_⟩
  unfold gLift at c
  cases o : ψ ρ () with
  | next ρ' g' => rw [o] at c; exact fun σ' H' D' r' s' => c ys σ' H' D' r' s' (DpAll.up s' _ _ dz)
  | brk ρ' g' => rw [o] at c; exact fun σ' H' D' r' s' => c ys σ' H' D' r' s' (DpAll.up s' _ _ dz)
  | cont ρ' g' => rw [o] at c; exact fun σ' H' D' r' s' => c ys σ' H' D' r' s' (DpAll.up s' _ _ dz)
  | exc C fs ρ' g' => rw [o] at c; exact c
  | ret y g' => rw [o] at c; exact c.elim
  | stuck => rw [o] at c; exact c.elim
theorem gplain (h : DS X P st ψ) : GD X P st (gLift ψ) := gs_weak (gs_ps h) fun E ys σ H q => lift_of q
def gNil : GFnD := fun ρ zs => .next ρ zs
theorem gdnil : GDs X P [] gNil := gss_weak gss_nil fun E ys σ H ⟨D, ρ, zs, r, dz, c⟩ => c ys σ H D r (Sub.refl D) dz
theorem gdcons (h : GD X P st χ1) (t : GDs X P rest χ2) : GDs X P (st :: rest) (sSeq χ1 χ2) := gss_weak (gss_cons h t) fun E ys σ H ⟨D, ρ, zs, r, dz, c⟩ => by
  refine ⟨D, ρ, zs, r, dz, ?_⟩
  unfold sSeq at c
  cases o : χ1 ρ zs with
  | next ρ' zs' => rw [o] at c; exact fun ys' σ' H' D' r' s' d' => ⟨D', ρ', zs', r', d', ContG.back s' c⟩
  | brk ρ' g' => rw [o] at c; exact c
  | cont ρ' g' => rw [o] at c; exact c
  | exc C fs ρ' g' => rw [o] at c; exact c
  | ret y g' => rw [o] at c; exact c
  | stuck => rw [o] at c; exact c
/-- yield e -/
def gYield (φ : Fn Unit) : GFnD := fun ρ zs => if zs.length < sizeLine then (match φ ρ () with
  | .ok (.d x) _ => .next ρ (zs ++ [x])
  | .exc C fs _ => .exc C fs ρ zs
  | _ => .stuck) else .stuck
theorem DpAll.snoc {K : PySem.W.Frag} {D : Hp} : ∀ {ys : List V} {zs : List PyData} {v : V} {x : PyData}, DpAll K D ys zs → Dp K D v x → DpAll K D (ys ++ [v]) (zs ++ [x])
  | _, _, _, _, .nil, h => .cons h .nil
  | _, _, _, _, .cons a b, h => .cons a (DpAll.snoc b h)
theorem gyield (he : DE X P e φ) (hco : X.env.scope.isCoroutine = false := by rfl) (hi : interactive X.env = false := by rfl) : GD X P (.Expr (.Yield (some e) yp) pos) (gYield φ) := gs_weak (gs_yield he hco hi) fun E ys σ H ⟨D, ρ, zs, r, dz, c⟩ => by
  unfold gYield at c
  by_cases hl : zs.length < sizeLine
  · rw [if_pos hl] at c
    refine ⟨by rw [DpAll.len dz]; exact hl, D, ρ, (), r, ?_⟩
    cases o : φ ρ () with
    | ok y g' =>
      rw [o] at c
      cases y with
      | d x => exact fun v H1 D1 r1 gr vr => c _ σ H1 D1 r1 gr.dk (DpAll.snoc (DpAll.up gr.dk _ _ dz) vr)
      | l x => exact c.elim
      | b x => exact c.elim
      | h => exact c.elim
    | exc C fs g1 =>
      rw [o] at c
      exact fun d vfs H' D' r' gr h1 h2 => c σ d vfs H' D' r' gr.dk h1 h2
    | stuck => rw [o] at c; exact c.elim
  · rw [if_neg hl] at c; exact c.elim
/-- for x in …: with yields inside -/
def gFor (Ι : FnI Unit) (asg : Asg) (body : GFnD) : GFnD := fun ρ zs => match Ι ρ () with
  | .ok ys _ => loopD asg body ys ρ zs
  | .exc C fs _ => .exc C fs ρ zs
  | .stuck => .stuck
theorem gfor {tg iter : Expr} {body : List Stmt} {Ι : FnI Unit} {gt : TG} {asg : Asg} (hp : PassesOwn (model X.prog X.w) X.A X.env X.xe) (hc : X.calm = true) (hi : DI X P tg iter Ι) (hg : PG X tg gt) (ht : TgIs P gt asg) (hb : GDs X P body χ)
    (hfs : ∀ x, foldedSetIterable iter X.env x = pure x := by intro _; rfl) : GD X P (.For tg iter body [] pos) (gFor Ι asg χ) := gs_weak (gs_for hp hc hi hg hb hfs) fun E ys σ H ⟨D, ρ, zs, r, dz, c⟩ => by
  refine ⟨D, ρ, (), r, ?_⟩
  unfold gFor at c
  cases q : Ι ρ () with
  | exc C fs g1 => rw [q] at c; exact fun d vfs H' D' r' gr h1 h2 => c σ d vfs H' D' r' gr.dk h1 h2
  | stuck => rw [q] at c; exact c
  | ok xs g1 =>
    rw [q] at c
    intro J H1 D1 r1 gr it
    have c' : ContG P D1 (loopD asg χ xs ρ zs) E := ContG.back gr.dk c
    refine ⟨fun i m ys' σ' H' => m = xs.length - i ∧ ∃ D' ρ' zs', Rep P σ' H' D' ρ' () ∧ Sub D1 D' ∧ DpAll P.K D' ys' zs' ∧ ContG P D' (loopD asg χ (xs.drop i) ρ' zs') E, ⟨xs.length, by simp, D1, ρ, zs, r1, Sub.refl _, DpAll.up gr.dk _ _ dz, by simpa using c'⟩, ?_⟩
    rintro i m ys' σ' H' ⟨rfl, D', ρ', zs', r', s', dz', c2⟩
    by_cases hlt : i < xs.length
    · have e : xs[i]? = some xs[i] := by simp [hlt]
      obtain ⟨hgo, hy⟩ := it.go i _ H' D' e s' r'.sub
      refine .inr ⟨hgo, fun ys'' σ'' H'' => ∃ D'' ρ'' zs'', Rep P σ'' H'' D'' ρ'' () ∧ Sub D1 D'' ∧ DpAll P.K D'' ys'' zs'' ∧ ContG P D'' (loopD asg χ (xs.drop (i + 1)) ρ'' zs'') E, fun ys'' σ'' H'' ⟨D'', ρ'', zs'', r'', s'', d'', c3⟩ => ⟨xs.length - (i + 1), by omega, rfl, D'', ρ'', zs'', r'', s'', d'', c3⟩, fun x H3 hx => ?_⟩
      obtain ⟨D3, l, dp⟩ := hy x H3 hx
      have r3 := r'.lg l
      rw [List.drop_eq_getElem_cons hlt] at c2
      unfold loopD at c2
      cases k : asg xs[i] ρ' with
      | none => rw [k] at c2; exact c2.elim
      | some ρ1 =>
        rw [k] at c2
        simp only at c2
        refine ht.run x xs[i] σ' H3 D3 ρ' () ρ1 _ r3 dp k fun σ4 r4 => ⟨D3, ρ1, zs', r4, DpAll.up l.dk _ _ dz', ?_⟩
        have s3 : Sub D1 D3 := s'.trans l.dk
        have c3 := ContG.back l.dk c2
        cases w : χ ρ1 zs' with
        | next ρ2 g2 => rw [w] at c3; exact fun ys5 σ5 H5 D5 r5 s5 d5 => ⟨D5, ρ2, g2, r5, s3.trans s5, d5, ContG.back s5 c3⟩
        | cont ρ2 g2 => rw [w] at c3; exact fun ys5 σ5 H5 D5 r5 s5 d5 => ⟨D5, ρ2, g2, r5, s3.trans s5, d5, ContG.back s5 c3⟩
        | brk ρ2 g2 => rw [w] at c3; exact c3
        | ret y g2 => rw [w] at c3; exact c3
        | exc C fs ρ2 g2 => rw [w] at c3; exact c3
        | stuck => rw [w] at c3; exact c3
    · have hd : xs.drop i = [] := List.drop_eq_nil_of_le (by omega)
      rw [hd] at c2
      exact .inl ⟨it.stop i H' D' (by omega) s' r'.sub, c2 ys' σ' H' D' r' (Sub.refl _) dz'⟩
end

/-! ### the def -/
def QPG (K : PySem.W.Frag) (H D : Hp) (o : OutI Unit) (Q : List V → Hp → Prop) (E : XK) : Prop := match o with
  | .ok zs _ => ∀ ys H' D', LG H D H' D' → DpAll K D' ys zs → Q ys H'
  | .exc C fs _ => ∀ d vfs H' D', LG H D H' D' → H' d = some (.xd vfs) → FR K D' vfs fs → E (.ref C) (some d) H'
  | .stuck => False
def spG (K : PySem.W.Frag) (n : Nat) (f : List PyData → OutI Unit) : SpG := fun vs H Q E => vs.length = n ∧ ∃ D ds, Sub D H ∧ DpAll K D vs ds ∧ QPG K H D (f ds) Q E
def runG (N : List Str) (χ : GFnD) (ds : List PyData) : OutI Unit := match χ (env0 N ds) [] with
  | .next _ zs => .ok zs ()
  | .exc C fs _ _ => .exc C fs ()
  | _ => .stuck
section
variable {P : Program} {w : World} {K : PySem.W.Frag} {mg : Str → Option Value} {base : Heap}
abbrev cxG (P : Program) (w : World) (K : PySem.W.Frag) (mg : Str → Option Value) (base : Heap) (N : List Str) (qual : Str) (st : Stmt) (f : Addr) (cdv : Value) (A : Around) (outer : List PySem.Env) (s : Shared) (H : Hp) (E : XK) (pn : List (Addr × Obj)) : Cx := gcxOf P w K mg base N qual (defScope st) f cdv A outer s H E pn
theorem fnGen {x qual : Str} {st : Stmt} {f : Addr} {fd : FuncData} {N ps : List Str} {k : Nat} {χ : GFnD} (F : Fun K x qual st f fd) (S : GScope N ps (defScope st))
    (hbody : ∀ (cdv : Value) (A : Around) (outer : List PySem.Env) (s : Shared) (H D : Hp) (E : XK) (pn : List (Addr × Obj)), Room k (cxG P w K mg base N qual st f cdv A outer s H E pn).A → Takes (cxG P w K mg base N qual st f cdv A outer s H E pn) (fun cls d _ H => E cls d H) →
      PassesOwn (model P w) (cxG P w K mg base N qual st f cdv A outer s H E pn).A (cxG P w K mg base N qual st f cdv A outer s H E pn).env (cxG P w K mg base N qual st f cdv A outer s H E pn).xe →
      GDs (cxG P w K mg base N qual st f cdv A outer s H E pn) ⟨K, rs0, H, D, fun cls d _ H => E cls d H⟩ (defBody st) χ) : GFn P w K mg base (k + 1) f fd ps (spG K ps.length (runG N χ)) := by
  obtain ⟨oc, od, kV, doc, pm, an, cdv, ct, osl, rfl, lk, hcd⟩ := F.ex
  refine gfn_of lk hcd S (fun vs H Q E h => h.1) fun A outer s H vs Q E pn hr h => ?_
  obtain ⟨hl, D, ds, sd, hd, q⟩ := h
  refine ⟨_, hbody cdv A outer s H D E pn hr takes_gcx owns_gcx, D, env0 N ds, [], rep0 sd hd, .nil, ?_⟩
  unfold runG at q
  cases o : χ (env0 N ds) [] with
  | next ρ' zs =>
    rw [o] at q
    exact fun ys σ' H' D' r' s' d' => q ys H' D' (Grow.lg0 r'.grow r'.sub) d'
  | exc C fs ρ' g' =>
    rw [o] at q
    exact fun σ' d vfs H' D' r' s' h1 h2 => q d vfs H' D' (Grow.lg0 r'.grow r'.sub) h1 h2
  | ret y g' => rw [o] at q; exact q.elim
  | brk ρ' g' => rw [o] at q; exact q.elim
  | cont ρ' g' => rw [o] at q; exact q.elim
  | stuck => rw [o] at q; exact q.elim
end
end Dn

set_option Elab.async false
set_option linter.all false
set_option autoImplicit false
set_option maxRecDepth 100000
set_option maxHeartbeats 1000000
/-! list(g(..)) of a generator def; calls by keywords alone -/
namespace Dn
open PySem PySem.Spec PyProof.Rows L2
def liftL {γ : Type} (C0 : Addr) (o : OutI Unit) (g : γ) : Out γ := match o with
  | .ok zs _ => .ok (.l zs) g
  | .exc C fs _ => if C = C0 then .exc C fs g else .stuck
  | .stuck => .stuck
def fListG {γ : Type} (C0 : Addr) (n : Nat) (f : List PyData → OutI Unit) (Φ : FnA γ) : Fn γ := fun ρ g => (Φ ρ g).bind fun ys g1 => match allD ys with
  | some ds => if ds.length = n then liftL C0 (f ds) g1 else .stuck
  | none => .stuck
section
variable {γ : Type} {gd : Prop} {X : Cx} {P : Pm γ} {σ : L2.St} {H D H1 D1 : Hp} {ρ : Env} {g g1 : γ} {e : Expr} {Φ : FnA γ} {pos : Pos} {Q : VK}
abbrev Quiet (K : PySem.W.Frag) (C : Addr) : Prop := PySem.W.subIn K (.ref C) (.type "StopIteration") = some false
def WQ (K : PySem.W.Frag) (E : XK) : XK := fun cls d H => E cls d H ∧ PySem.W.subIn K cls (.type "StopIteration") = some false
theorem gen_of {C0 : Addr} {n : Nat} {f : List PyData → OutI Unit} (hq : Quiet P.K C0) (r1 : Rep P σ H1 D1 ρ g1) {ys : List SV} {vs : List V} (vr : ARs P.K P.rs H1 D1 vs ys)
    (c1 : Cont P σ H1 D1 ρ (match allD ys with | some ds => if ds.length = n then liftL C0 (f ds) g1 else .stuck | none => .stuck) Q) :
    spG P.K n f vs H1 (fun out H2 => ∀ p, H2 p = none → Q (.ref p) (upd H2 p (.lst out))) (WQ P.K (WE P.W σ)) := by
  cases q : allD ys with
  | none => simp only [q] at c1; exact c1.elim
  | some ds =>
    simp only [q] at c1
    by_cases hn : ds.length = n
    · rw [if_pos hn] at c1
      refine ⟨by rw [vr.len, ← allD_len q]; exact hn, D1, ds, r1.sub, vr.allD q, ?_⟩
      cases w : f ds with
      | ok zs u =>
        rw [w] at c1
        intro out H' D' l dz p hp
        have r2 := r1.lg l
        have l2 := LG.new (o := .lst out) r2.sub hp
        have hd : D' p = none := by
          cases e : D' p with
          | none => rfl
          | some u => rw [r2.sub p u e] at hp; cases hp
        have lo : H1 p = none := by
          cases e : H1 p with
          | none => rfl
          | some u => rw [l.keep p u e] at hp; cases hp
        exact c1 _ _ _ (r2.lg l2) (l.grow.trans l2.grow) ⟨⟨p, out, rfl, upd_same, hd, r2.nfp hp, dz⟩, fun a e => by cases e; exact lo⟩
      | exc C fs u =>
        rw [w] at c1
        have key : ∀ b : Prop, [Decidable b] → (b → Quiet P.K C) → Cont P σ H1 D1 ρ (if b then .exc C fs g1 else .stuck) Q → QPG P.K H1 D1 (.exc C fs u) (fun out H2 => ∀ p, H2 p = none → Q (.ref p) (upd H2 p (.lst out))) (WQ P.K (WE P.W σ)) := fun b _ hb c2 => by
          by_cases h : b
          · rw [if_pos h] at c2
            exact fun d vfs H' D' l h1 h2 => ⟨c2 d vfs H' D' (r1.lg l) l.grow h1 h2, hb h⟩
          · rw [if_neg h] at c2; exact c2.elim
        exact key (C = C0) (fun e => by rw [e]; exact hq) c1
      | stuck => rw [w] at c1; exact c1
    · rw [if_neg hn] at c1; exact c1.elim
theorem cx_imp {Pg : Program} {w : World} {outer : List PySem.Env} {H : Hp} {s s' : Shared} {E E' : XK} {u : Value} (i : ∀ c d H, E c d H → E' c d H) (c : L2.CX Pg w outer H s E u s') : L2.CX Pg w outer H s E' u s' :=
  let ⟨a, B, H', cls, d, z1, z2, z3, z4, z5, z6, z7, z8⟩ := c
  ⟨a, B, H', cls, d, z1, z2, z3, z4, z5, z6, z7, i _ _ _ z8⟩
/-- the consumer: list(e), where e gives a generator that has not begun -/
theorem list_run {k : Nat} {cont : List V → Hp → Prop} {W : WX} {nm : Str} {p : Pos} {pins : List (Addr × Obj)} {s : Shared} (tk : Takes X W) (hr : Room (k + 3) X.A) (hg : Gl X nm) (hmg : X.mg nm = none) (hv : bootBuiltins nm = some (.type "list")) (hnm : nm ≠ "__name__") (hdb : (nm == ("__debug__" : Str)) = false)
    (he : starEach [e] X.env = (false, eval e X.env) :: starEach [] X.env) (I : L2.Inv X pins σ H s) (hQ : ∀ out H2, cont out H2 → ∀ a, H2 a = none → Q (.ref a) (upd H2 a (.lst out)))
    (h : wpAny (model X.prog X.w) X.A (eval e X.env) (fun u s' => ∃ H1 sc ex, L2.Inv X pins σ H1 sc ∧ ExOk X pins ex ∧ GMade X.prog X.w k X.stack H1 sc ex cont (WQ X.K (WE W σ)) u s') X.xe s) :
    wpAny (model X.prog X.w) X.A (eval (.Call (.Name nm p) [e] [] pos) X.env) (EP X pins σ Q) X.xe s := by
  refine wpAny_Call_Name_kw (ld_blt I hg hmg hv ?_ hnm hdb)
  refine PyProof.Rows.callWith_type1 ?_ he rfl
  rw [he]
  show wpAny _ _ (spliced ((false, eval e X.env) :: backTo pos (starEach [] X.env))) _ _ s
  refine Calls.spliced_cons (thn h fun u s1 z => Calls.spliced_nil ?_)
  obtain ⟨H1, sc, ex, I1, hex, hG⟩ := z
  have sz : sc.heap.objs.size ≤ s1.heap.objs.size := by
    obtain ⟨a, g, c, _, q1, q2, _⟩ := id hG
    exact Nat.le_trans q1 (Nat.le_of_lt q2)
  refine call_list_new hr I1.ok.frames hG ?_ ?_
  · intro S s' acc c H' ys q0 q1 q2 hl q3 q4 q5 q6 q7 q8
    exact ⟨.ref S, upd H' S (.lst ys), I1.drained (Nat.le_trans sz q0) hl q1 q2 hex q3 q4 q5 q6 q7, rfl, hQ ys H' q8 S q7⟩
  · intro e' s' g hc
    have kin : X.K.In s'.heap := by
      obtain ⟨a, B, H', cls, d, _, fl, _, ub, _⟩ := id hc
      refine I1.ok.mod.kin.keeps fun b o eb => fl.1 b o (ub.keep b o (I1.bs b o eb).1 (I1.bs b o eb).2 ?_)
      intro hm
      rcases List.mem_cons.mp (I1.stkSub b hm) with z | z
      · rw [z] at eb
        exact absurd (Nat.lt_of_lt_of_le (Heap.lt_size eb) (Nat.le_trans I1.ok.bsz I1.ok.above)) (Nat.lt_irrefl _)
      · exact I1.ok.nofr eb z
    refine ⟨notStop_of (fun cls d H z => z.2) kin hc, passAt tk σ pins H1 sc e' _ I1 (cx_imp (E := WQ X.K (WE W σ)) (fun _ _ _ z => z.1) ?_)⟩
    obtain ⟨a, B, H', cls, d, z1, z2, z3, z4, z5, z6, z7, z8⟩ := hc
    exact ⟨a, B, H', cls, d, z1, z2, z3, z4, z5, z6, allBare_setGen z7 rfl, z8⟩
theorem dlistG {k n : Nat} {f : Addr} {fd : FuncData} {ps : List Str} {fn : List PyData → OutI Unit} {x nm : Str} {p p' pos' : Pos} {es : List Expr} (tk : Takes X P.W) (F : GFn X.prog X.w X.K X.mg X.base k f fd ps (spG P.K n fn)) (hr : Room (k + 3) X.A)
    (hm : X.mg x = some (.ref f)) (hk : PySem.W.keepIn X.K (.ref f) = true) (hb : Binds X.K fd ps []) {C0 : Addr} (hq : Quiet P.K C0) (ha : DA X P (e :: es) Φ) (hmg : X.mg nm = none) (hv : bootBuiltins nm = some (.type "list")) (hK : X.K = P.K := by rfl)
    (hg : Gl X x := by rfl) (hgn : Gl X nm := by rfl) (hdb : (x == ("__debug__" : Str)) = false := by decide) (hdn : (nm == ("__debug__" : Str)) = false := by decide) (hnm : nm ≠ "__name__" := by decide)
    (he : starEach (e :: es) X.env = (false, eval e X.env) :: starEach es X.env := by rfl) (hpl : (backTo pos' (starEach es X.env)).any (·.1) = false := by rfl)
    (he' : starEach [.Call (.Name x p') (e :: es) [] pos'] X.env = (false, eval (.Call (.Name x p') (e :: es) [] pos') X.env) :: starEach [] X.env := by rfl) :
    DE X P (.Call (.Name nm p) [.Call (.Name x p') (e :: es) [] pos'] [] pos) (fListG C0 n fn Φ) := ⟨fun pins s σ H Q I ⟨D, ρ, g, r, c⟩ => by
  have hrk : Room k X.A := ⟨hr.hd, by have := hr.dp; omega, by have := hr.un; omega⟩
  refine list_run tk hr hgn hmg hv hnm hdn he' I (cont := fun out H2 => ∀ a, H2 a = none → Q (.ref a) (upd H2 a (.lst out))) (fun _ _ z => z) ?_
  refine (pgen_call F hrk hg hm hk hb .nil ha hdb he hpl).run pins s σ H _ I ?_
  refine tDA_bind r c fun ys g1 vs H1 D1 _ r1 gr vr c1 => ?_
  rw [List.append_nil, hK]
  exact gen_of hq r1 vr c1⟩
end
end Dn

set_option Elab.async false
set_option linter.all false
set_option autoImplicit false
set_option maxRecDepth 100000
set_option maxHeartbeats 1000000
/-! calls by keywords alone -/
namespace Dn
open PySem PySem.Spec PyProof.Rows L2
/-- the keywords stand in the turned order of the parameters -/
structure KRev (K : PySem.W.Frag) (fd : FuncData) (ps ks : List Str) : Prop where
  to : ∀ (s : Shared) (ws : List Value), K.In s.heap → ws.length = ps.length → BindsTo s fd ⟨[], ks.zip ws⟩ (ps.zip ws.reverse)
theorem KRev.all {K : PySem.W.Frag} {fd : FuncData} {ps ks : List Str} (h : ∀ ws : List Value, ws.length = ps.length → bindArgs fd ⟨[], ks.zip ws⟩ = pure (ps.zip ws.reverse)) : KRev K fd ps ks := ⟨fun s ws _ hl => .of_eq (h ws hl)⟩
section
variable {γ : Type} {gd : Prop} {X : Cx} {P : Pm γ} {σ : L2.St} {H D H1 D1 : Hp} {ρ : Env} {g g1 : γ} {e : Expr} {φ : Fn γ} {Φ : FnA γ} {pos kp : Pos} {Q : VK} {kws : List Keyword} {nm : Option Str}
abbrev DK (X : Cx) (P : Pm γ) (kws : List Keyword) (Φ : FnA γ) : Prop := PK X kws (tDA P Φ)
theorem pk_weak {t t' : TA} (h : PK X kws t) (i : ∀ σ H Q, t' σ H Q → t σ H Q) : PK X kws t' := ⟨fun pos pins s σ H Q I q => h.run pos pins s σ H Q I (i σ H Q q)⟩
theorem dknil : DK X P [] aNil := pk_weak pk_nil fun σ H Q ⟨D, ρ, g, r, c⟩ => c [] H D r .refl .nil
theorem dkcons (h : DE X P e φ) (t : DK X P kws Φ) : DK X P (⟨nm, e, kp⟩ :: kws) (aCons φ Φ) :=
  pk_weak (pk_cons h t) fun σ H Q ⟨D, ρ, g, r, c⟩ => by
    refine tD_bindA r c fun x g1 vx H1 D1 _ r1 gr1 v1 c1 => ?_
    refine tDA_bindA r1 c1 fun xs g2 vs H2 D2 _ r2 gr2 v2 c2 => ?_
    exact c2 (vx :: vs) H2 D2 r2 .refl (.cons (v1.ar.up gr2) v2)
theorem spP_rev {K : PySem.W.Frag} {n : Nat} {f : List PyData → Out Unit} {vs : List V} {H : Hp} {E : XK} (h : spP K n (fun ds => f ds.reverse) vs H Q E) : spP K n f vs.reverse H Q E := by
  obtain ⟨hl, D, ds, sd, hd, q⟩ := h
  exact ⟨by rw [List.length_reverse]; exact hl, D, ds.reverse, sd, DpAll.rev hd, q⟩
theorem spG_rev {K : PySem.W.Frag} {n : Nat} {f : List PyData → OutI Unit} {vs : List V} {H : Hp} {C : List V → Hp → Prop} {E : XK} (h : spG K n (fun ds => f ds.reverse) vs H C E) : spG K n f vs.reverse H C E := by
  obtain ⟨hl, D, ds, sd, hd, q⟩ := h
  exact ⟨by rw [List.length_reverse]; exact hl, D, ds.reverse, sd, DpAll.rev hd, q⟩
theorem dcallK {k n : Nat} {f : Addr} {fd : FuncData} {ps ks : List Str} {fn : List PyData → Out Unit} {x : Str} {p : Pos} (tk : Takes X P.W) (hG : gd → X.A.guards = some []) (F : FnG gd X.prog X.w X.K X.mg X.base k f fd ps (spP P.K n fn)) (hr : Room k X.A)
    (hm : X.mg x = some (.ref f)) (hk : PySem.W.keepIn X.K (.ref f) = true) (kb : KRev X.K fd ps ks) (ha : DK X P kws Φ) (hg : Gl X x := by rfl) (hdb : (x == ("__debug__" : Str)) = false := by decide)
    (hall : (backToKw pos (keywordEach kws X.env)).all (·.1.isSome) = true := by rfl) (hks : (backToKw pos (keywordEach kws X.env)).filterMap (·.1) = ks := by rfl)
    (hpl : ((backTo pos (starEach [] X.env)).any (·.1) || (backToKw pos (keywordEach kws X.env)).any (·.1.isNone)) = false := by rfl) : DE X P (.Call (.Name x p) [] kws pos) (fCall n (fun ds => fn ds.reverse) Φ) := ⟨fun pins s σ H Q I ⟨D, ρ, g, r, c⟩ => by
  refine wpAny_Call_Name_kw (ld_glob I hg hm ?_ hdb)
  refine PySem.W.callWith_KW0 (h₀ := X.base) I.ok.mod.kin hk hall ?_ hpl
  have args := ha.run pos pins s σ H (fun vs H1 => spP P.K n (fun ds => fn ds.reverse) vs H1 Q (WE P.W σ)) I (tDA_bind r c fun ys g1 vs H1 D1 _ r1 gr vr c1 => call_of r1 vr c1)
  refine thn args fun ws s1 z => ?_
  obtain ⟨vs, H1, I1, rv, q⟩ := z
  refine ⟨I1.kIn, ?_⟩
  rw [hks]
  have q := spP_rev q
  have hl : ws.length = ps.length := by
    have e := F.len _ _ _ _ q
    rw [List.length_reverse, rv.length] at e
    exact e
  refine wpAny_call (codeAny_mono (F.run X.A X.stack s1 H1 _ ws.reverse vs.reverse Q (WE P.W σ) hG hr I1.env0 (kb.to s1 ws I1.kIn hl) rv.reverse q) fun rr s2 hq => ?_)
  match rr, hq with
  | .error ex, hq => exact passAt tk σ pins H1 s1 ex s2 I1 hq
  | .ok (.ret u), hq => exact I1.after hq
  | .ok .next, hq => exact hq.elim
  | .ok .brk, hq => exact hq.elim
  | .ok .cont, hq => exact hq.elim⟩
theorem dlistGK {k n : Nat} {f : Addr} {fd : FuncData} {ps ks : List Str} {fn : List PyData → OutI Unit} {x nl : Str} {p p' pos' : Pos} (tk : Takes X P.W) (F : GFn X.prog X.w X.K X.mg X.base k f fd ps (spG P.K n fn)) (hr : Room (k + 3) X.A)
    (hm : X.mg x = some (.ref f)) (hk : PySem.W.keepIn X.K (.ref f) = true) (kb : KRev X.K fd ps ks) {C0 : Addr} (hq : Quiet P.K C0) (ha : DK X P kws Φ) (hmg : X.mg nl = none) (hv : bootBuiltins nl = some (.type "list")) (hK : X.K = P.K := by rfl)
    (hg : Gl X x := by rfl) (hgn : Gl X nl := by rfl) (hdb : (x == ("__debug__" : Str)) = false := by decide) (hdn : (nl == ("__debug__" : Str)) = false := by decide) (hnm : nl ≠ "__name__" := by decide)
    (hall : (backToKw pos' (keywordEach kws X.env)).all (·.1.isSome) = true := by rfl) (hks : (backToKw pos' (keywordEach kws X.env)).filterMap (·.1) = ks := by rfl)
    (hpl : ((backTo pos' (starEach [] X.env)).any (·.1) || (backToKw pos' (keywordEach kws X.env)).any (·.1.isNone)) = false := by rfl)
    (he' : starEach [.Call (.Name x p') [] kws pos'] X.env = (false, eval (.Call (.Name x p') [] kws pos') X.env) :: starEach [] X.env := by rfl) :
    DE X P (.Call (.Name nl p) [.Call (.Name x p') [] kws pos'] [] pos) (fListG C0 n (fun ds => fn ds.reverse) Φ) := ⟨fun pins s σ H Q I ⟨D, ρ, g, r, c⟩ => by
  have hrk : Room k X.A := ⟨hr.hd, by have := hr.dp; omega, by have := hr.un; omega⟩
  refine list_run tk hr hgn hmg hv hnm hdn he' I (cont := fun out H2 => ∀ a, H2 a = none → Q (.ref a) (upd H2 a (.lst out))) (fun _ _ z => z) ?_
  refine wpAny_Call_Name_kw (ld_glob I hg hm ?_ hdb)
  refine PySem.W.callWith_KW0 (h₀ := X.base) I.ok.mod.kin hk hall ?_ hpl
  have args := ha.run pos' pins s σ H (fun vs H1 => spG P.K n (fun ds => fn ds.reverse) vs H1 (fun out H2 => ∀ a, H2 a = none → Q (.ref a) (upd H2 a (.lst out))) (WQ P.K (WE P.W σ))) I
    (tDA_bind r c fun ys g1 vs H1 D1 _ r1 gr vr c1 => gen_of hq r1 vr c1)
  refine thn args fun ws s1 z => ?_
  obtain ⟨vs, H1, I1, rv, q⟩ := z
  refine ⟨I1.kIn, ?_⟩
  rw [hks]
  have q := spG_rev q
  have hl : ws.length = ps.length := by
    have e := F.len _ _ _ _ q
    rw [List.length_reverse, rv.length] at e
    exact e
  rw [hK]
  refine wpAny_call (codeAny_mono (F.run X.A X.stack s1 H1 _ ws.reverse vs.reverse _ _ hrk I1.env0 (kb.to s1 ws I1.kIn hl) rv.reverse q) fun rr s2 hq => ?_)
  match rr, hq with
  | .ok (.ret u), hq => exact ⟨H1, s1, [], I1, ExOk.nil, hq⟩
  | .error ex, hq => exact hq.elim
  | .ok .next, hq => exact hq.elim
  | .ok .brk, hq => exact hq.elim
  | .ok .cont, hq => exact hq.elim⟩
end
end Dn

set_option Elab.async false
set_option linter.all false
set_option autoImplicit false
set_option maxRecDepth 100000
set_option maxHeartbeats 1000000
/-! generator defs and keyword calls, by name -/
namespace Dn
open PySem PySem.Spec PyProof.Rows L2
theorem KRev.of {K : PySem.W.Frag} {x qual : Str} {st : Stmt} {f : Addr} {fd : FuncData} {ps ks : List Str} (F : Fun K x qual st f fd)
    (h : ∀ (kV doc pm : Value) (an : Option Addr) (cdv ct : Value) (ws : List Value), ws.length = ps.length → bindArgs (PySem.W.fnOf x qual (defArgs st) (defBody st) (defScope st) .none kV doc pm an cdv ct) ⟨[], ks.zip ws⟩ = pure (ps.zip ws.reverse)) : KRev K fd ps ks := by
  obtain ⟨oc, od, kV, doc, pm, an, cdv, ct, osl, rfl, lk, hcd⟩ := F.ex
  exact .all (h kV doc pm an cdv ct)
structure DfnK (gd : Prop) (P : Program) (w : World) (K : PySem.W.Frag) (mg : Str → Option Value) (base : Heap) (k : Nat) (x : Str) (ks : List Str) (n : Nat) (fn : List PyData → Out Unit) : Prop where
  ex : ∃ (f : Addr) (fd : FuncData) (ps : List Str), mg x = some (.ref f) ∧ PySem.W.keepIn K (.ref f) = true ∧ KRev K fd ps ks ∧ FnG gd P w K mg base k f fd ps (spP K n fn)
structure GDfn (P : Program) (w : World) (K : PySem.W.Frag) (mg : Str → Option Value) (base : Heap) (k : Nat) (x : Str) (n : Nat) (fn : List PyData → OutI Unit) : Prop where
  ex : ∃ (f : Addr) (fd : FuncData) (ps : List Str), mg x = some (.ref f) ∧ PySem.W.keepIn K (.ref f) = true ∧ L2.Binds K fd ps [] ∧ GFn P w K mg base k f fd ps (spG K n fn)
structure GDfnK (P : Program) (w : World) (K : PySem.W.Frag) (mg : Str → Option Value) (base : Heap) (k : Nat) (x : Str) (ks : List Str) (n : Nat) (fn : List PyData → OutI Unit) : Prop where
  ex : ∃ (f : Addr) (fd : FuncData) (ps : List Str), mg x = some (.ref f) ∧ PySem.W.keepIn K (.ref f) = true ∧ KRev K fd ps ks ∧ GFn P w K mg base k f fd ps (spG K n fn)
section
variable {gd : Prop} {γ ι : Type} {Fm : ι → Rs γ} {X : Cx} {P : Pm γ} {e : Expr} {Φ : FnA γ} {pos : Pos} {kws : List Keyword}
theorem dcallDK {k : Nat} {n : Nat} {ks : List Str} {fn : List PyData → Out Unit} {x : Str} {p : Pos} (tk : Takes X P.W) (hG : gd → X.A.guards = some []) (F : DfnK gd X.prog X.w X.K X.mg X.base k x ks n fn) (hr : Room k X.A) (ha : DK X P kws Φ) (hK : X.K = P.K := by rfl) (hg : Gl X x := by rfl)
    (hdb : (x == ("__debug__" : Str)) = false := by decide) (hall : (backToKw pos (keywordEach kws X.env)).all (·.1.isSome) = true := by rfl) (hks : (backToKw pos (keywordEach kws X.env)).filterMap (·.1) = ks := by rfl)
    (hpl : ((backTo pos (starEach [] X.env)).any (·.1) || (backToKw pos (keywordEach kws X.env)).any (·.1.isNone)) = false := by rfl) : DE X P (.Call (.Name x p) [] kws pos) (fCall n (fun ds => fn ds.reverse) Φ) := by
  obtain ⟨f, fd, ps, h1, h2, h3, h4⟩ := F.ex
  rw [hK] at h4
  exact dcallK tk hG (by rw [hK]; exact h4) hr h1 h2 h3 ha hg hdb hall hks hpl
theorem dlistD {k n : Nat} {fn : List PyData → OutI Unit} {x nm : Str} {p p' pos' : Pos} {es : List Expr} (tk : Takes X P.W) (F : GDfn X.prog X.w X.K X.mg X.base k x n fn) {C0 : Addr} (hq : Quiet P.K C0) (hr : Room (k + 3) X.A)
    (ha : DA X P (e :: es) Φ) (hmg : X.mg nm = none) (hv : bootBuiltins nm = some (.type "list")) (hK : X.K = P.K := by rfl)
    (hg : Gl X x := by rfl) (hgn : Gl X nm := by rfl) (hdb : (x == ("__debug__" : Str)) = false := by decide) (hdn : (nm == ("__debug__" : Str)) = false := by decide) (hnm : nm ≠ "__name__" := by decide)
    (he : starEach (e :: es) X.env = (false, eval e X.env) :: starEach es X.env := by rfl) (hpl : (backTo pos' (starEach es X.env)).any (·.1) = false := by rfl)
    (he' : starEach [.Call (.Name x p') (e :: es) [] pos'] X.env = (false, eval (.Call (.Name x p') (e :: es) [] pos') X.env) :: starEach [] X.env := by rfl) :
    DE X P (.Call (.Name nm p) [.Call (.Name x p') (e :: es) [] pos'] [] pos) (fListG C0 n fn Φ) := by
  obtain ⟨f, fd, ps, h1, h2, h3, h4⟩ := F.ex
  rw [hK] at h4
  exact dlistG tk (by rw [hK]; exact h4) hr h1 h2 h3 hq ha hmg hv hK hg hgn hdb hdn hnm he hpl he'
theorem dlistDK {k n : Nat} {ks : List Str} {fn : List PyData → OutI Unit} {x nl : Str} {p p' pos' : Pos} (tk : Takes X P.W) (F : GDfnK X.prog X.w X.K X.mg X.base k x ks n fn) {C0 : Addr} (hq : Quiet P.K C0) (hr : Room (k + 3) X.A)
    (ha : DK X P kws Φ) (hmg : X.mg nl = none) (hv : bootBuiltins nl = some (.type "list")) (hK : X.K = P.K := by rfl)
    (hg : Gl X x := by rfl) (hgn : Gl X nl := by rfl) (hdb : (x == ("__debug__" : Str)) = false := by decide) (hdn : (nl == ("__debug__" : Str)) = false := by decide) (hnm : nl ≠ "__name__" := by decide)
    (hall : (backToKw pos' (keywordEach kws X.env)).all (·.1.isSome) = true := by rfl) (hks : (backToKw pos' (keywordEach kws X.env)).filterMap (·.1) = ks := by rfl)
    (hpl : ((backTo pos' (starEach [] X.env)).any (·.1) || (backToKw pos' (keywordEach kws X.env)).any (·.1.isNone)) = false := by rfl)
    (he' : starEach [.Call (.Name x p') [] kws pos'] X.env = (false, eval (.Call (.Name x p') [] kws pos') X.env) :: starEach [] X.env := by rfl) :
    DE X P (.Call (.Name nl p) [.Call (.Name x p') [] kws pos'] [] pos) (fListG C0 n (fun ds => fn ds.reverse) Φ) := by
  obtain ⟨f, fd, ps, h1, h2, h3, h4⟩ := F.ex
  rw [hK] at h4
  exact dlistGK tk (by rw [hK]; exact h4) hr h1 h2 h3 hq ha hmg hv hK hg hgn hdb hdn hnm hall hks hpl he'
end
end Dn

set_option Elab.async false
set_option linter.all false
set_option autoImplicit false
set_option maxRecDepth 100000
set_option maxHeartbeats 1000000
namespace Dn
open PySem PySem.Spec PyProof.Rows L2
section
variable {γ : Type} {X : Cx} {P : Pm γ}
/-- y = [.. for ..] -/
theorem dsetlc0 (i : Nat) {elt tg iter : Expr} {scope : Scope} {own : List (Str × Nat)} {Ι : FnI γ} {gt : TG} {asg : Asg} {ψ : Fn γ} {y : Str} {py spos pos : Pos} (hc : X.calm = true) (nd : X.N.Nodup) (hi : DI X P tg iter Ι) (ok : BlkOk X.N X.env.scope scope own)
    (hg : ∀ (s : Shared) (H : Hp) (C : Addr) (cl : List (Str × Addr)) (fp : List Addr), PG (X.blk s H scope (compEnvC scope cl C X.env) fp) tg gt) (ht : TgIs P.nox gt asg) (ho : TgOwn gt (own.map (·.2)))
    (he : ∀ (s : Shared) (H : Hp) (C : Addr) (cl : List (Str × Addr)) (fp : List Addr), DE (X.blk s H scope (compEnvC scope cl C X.env) fp) P.nox elt ψ) (hy : X.N[i]? = some y := by rfl) (hl : List.lookup y X.env.scope.names = some NameKind.local := by rfl)
    (hs : swapsWith (elt.ListComp [{ target := tg, iter := iter, ifs := [], is_async := 0 }] scope pos) (some (Expr.Name y py)) spos.line X.env = pure true := by rfl) (hfs : ∀ x, foldedSetIterable iter X.env x = pure x := by intro _; rfl) :
    DS X P (.Assign [.Name y py] (.ListComp elt [⟨tg, iter, [], 0⟩] scope pos) spos) (sAsg i (fLc (own.map (·.2)) Ι asg fYes ψ)) :=
  dsetlc (own := own) hc nd hy hl hs hi ok hg (fun _ _ _ _ _ => pts_nil) he hfs fun σ H Q => lc_core ht ho fun σ H Q ⟨D, ρ, g, r, c⟩ => c H D r .refl
end
end Dn

set_option Elab.async false
set_option linter.all false
set_option autoImplicit false
set_option maxRecDepth 100000
set_option maxHeartbeats 1000000
namespace Dn
open PySem PySem.Spec PyProof.Rows L2
section
variable {prog : Program} {w : World} {A : Around} {E : Value → Shared → Prop} {s : Shared}
theorem add_any {l b : Addr} {vs ws : List Value} {Q : Value → Shared → Prop} (hl : s.heap.IsList l vs.toArray) (hb : s.heap.IsList b ws.toArray) (hsz : vs.length + ws.length ≤ sizeLine)
    (h : Q (.ref s.heap.objs.size) { s with heap := s.heap.push { cls := .type "list", data := .seq (vs ++ ws).toArray } }) : wpAny (model prog w) A (binaryOp .Add (.ref l) (.ref b)) Q E s := by
  obtain ⟨⟨c1, d1, t1, s1⟩, ho, hc, n, hd⟩ := id hl
  obtain ⟨⟨c2, d2, t2, s2⟩, ho2, hc2, n2, hd2⟩ := id hb
  simp only at hc hd hc2 hd2
  subst hc hd hc2 hd2
  have hz : vs.toArray.size + ws.toArray.size ≤ sizeLine := by simpa using hsz
  have e : vs.toArray ++ ws.toArray = (vs ++ ws).toArray := by simp
  have got := list_addW l b vs.toArray ws.toArray n n2 d1 d2 s1 s2 hz
  refine concat_meets ⟨_, ho, rfl⟩ ⟨_, ho2, rfl⟩ noFill_list_add seq_list_add PySem.F.slot_list_add PySem.F.entry_list_add (PySem.F.args_list_add_2 _ _) got ⟨ho, ho2, ?_⟩
  rw [e]
  exact h
end
/-- data and an own list, together a new list -/
def rCatD (K : PySem.W.Frag) : R2 := fun x y H Q => ∃ l b xs zs, x = .ref l ∧ y = .ref b ∧ SqL K H l xs ∧ SqL K H b zs ∧ xs.length + zs.length ≤ sizeLine ∧ ∀ p, H p = none → Q (.ref p) (upd H p (.lst (xs ++ zs)))
theorem op_catD {X : Cx} : OpR X (binaryOp .Add) (rCatD X.K) := by
  intro pins s σ H x y v u Q I rx ry h
  obtain ⟨l, b, xs, zs, rfl, rfl, h1, h2, hz, q⟩ := h
  cases rx
  cases ry
  obtain ⟨its, r, ⟨o1, n1, e1, k1, _, m1⟩, z1⟩ := I.list h1
  obtain ⟨its2, r2, ⟨o2, n2, e2, k2, _, m2⟩, z2⟩ := I.list h2
  have l1 := r.length
  have l2 := r2.length
  exact add_any ⟨o1, e1, k1, n1, m1⟩ ⟨o2, e2, k2, n2, m2⟩ (by omega) ⟨.ref _, _, I.lnew (t' := s.toks) (r.append r2) (by rw [List.length_append]; omega), rfl, q _ I.fresh⟩
def rAddL (K : PySem.W.Frag) : R2 := fun x y H Q => rAdd K x y H Q ∨ rCatD K x y H Q
theorem op_addL {X : Cx} : OpR X (binaryOp .Add) (rAddL X.K) := OpR.or op_addAll op_catD
def oAddL : SV → SV → Option SV := fun x y => match x, y with
  | .d (.list i), y => (match lstOf y with
    | some j => if i.length + j.length ≤ 100000 then some (.l (i ++ j)) else none
    | none => none)
  | x, y => oAdd x y
theorem kAddL {K : PySem.W.Frag} : OpOk K (rAddL K) oAddL := fun {γ} rs H D vx vy x y z Q s rd hx hy hz q => by
  unfold oAddL at hz
  split at hz
  · rename_i y i
    split at hz
    · rename_i j ej
      by_cases hl : i.length + j.length ≤ 100000
      · rw [if_pos hl] at hz
        cases hz
        obtain ⟨a, us, rfl, k1, k4⟩ := ar_lst s hx (show lstOf (.d (.list i)) = some i from rfl)
        obtain ⟨b, ws, rfl, m1, m4⟩ := ar_lst s hy ej
        have l1 := DpAll.len k4
        have l2 := DpAll.len m4
        exact .inr ⟨a, b, us, ws, rfl, rfl, k1, m1, sz5 (by omega), fun p hp => q _ _ D (LG.new s hp) (vr_new s hp (nf_of hp rd) (DpAll.app k4 m4))⟩
      · rw [if_neg hl] at hz; cases hz
    · cases hz
  · exact .inl (kAdd rs H D vx vy x y z Q s rd hx hy hz q)
/-- == and != of two texts, whatever their signs -/
def oEqS : SV → SV → Option SV := fun x y => match x, y with
  | .d (.str a), .d (.str b) => some (.d (.bool (decide (a = b))))
  | x, y => oEq x y
def oNeS : SV → SV → Option SV := fun x y => match x, y with
  | .d (.str a), .d (.str b) => some (.d (.bool (!decide (a = b))))
  | x, y => oNe x y
def rEqS (K : PySem.W.Frag) : R2 := fun x y H Q => rEqD K x y H Q ∨ L2.rEq x y H Q
def rNeS (K : PySem.W.Frag) : R2 := fun x y H Q => rNeD K x y H Q ∨ L2.rNe x y H Q
theorem op_eqS {X : Cx} (hu : X.A.units + 64 < cLine) : OpR X (compareOp .Eq) (rEqS X.K) := OpR.or (op_eqD hu) op_eq
theorem op_neS {X : Cx} (hu : X.A.units + 64 < cLine) : OpR X (compareOp .NotEq) (rNeS X.K) := OpR.or (op_neD hu) op_ne
theorem dec_str {a b : Str} : decide (V.str a = V.str b) = decide (a = b) := by
  rw [decide_eq_decide]
  exact ⟨fun e => by injection e, fun e => by rw [e]⟩
theorem kEqS {K : PySem.W.Frag} : OpOk K (rEqS K) oEqS := fun {γ} rs H D vx vy x y z Q s rd hx hy hz q => by
  unfold oEqS at hz
  split at hz
  · cases hz
    cases hx
    cases hy
    refine .inr ⟨rfl, ?_⟩
    rw [dec_str]
    exact q _ H D (.refl s) (Dp.bl _)
  · exact .inl (kEq rs H D vx vy x y z Q s rd hx hy hz q)
theorem kNeS {K : PySem.W.Frag} : OpOk K (rNeS K) oNeS := fun {γ} rs H D vx vy x y z Q s rd hx hy hz q => by
  unfold oNeS at hz
  split at hz
  · cases hz
    cases hx
    cases hy
    refine .inr ⟨rfl, ?_⟩
    rw [dec_str]
    exact q _ H D (.refl s) (Dp.bl _)
  · exact .inl (kNe rs H D vx vy x y z Q s rd hx hy hz q)
end Dn

set_option Elab.async false
set_option linter.all false
set_option autoImplicit false
set_option maxRecDepth 100000
set_option maxHeartbeats 1000000
/-! the end: the law's def is called where no repr is under way -/
namespace Dn
open PySem PySem.Spec PyProof.Rows L2
section
variable {P : Program} {w : World} {K : PySem.W.Frag} {mg mb : Str → Option Value} {k : Nat} {fa a : Addr} {fd : FuncData} {x : Str} {sp : Sp} {s₁ : Shared} {vs : List Value} {ns : List Int}
abbrev Kept (s₁ : Shared) (r : Result) (s' : Shared) : Prop := r = .ok (.ret (.bool true)) ∧ OldK s₁.heap s'.heap ∧ s'.os = s₁.os ∧ AllBare s'.gens
/-- from a heap that tracks the script alone -/
theorem call_from (KX : K.In s₁.heap) (hns : s₁.heap.Ns mainGlobals mg) (hb : s₁.heap.Ns builtinsNs mb) (hbb : ∀ x : Str, x ≠ "__name__" → mb x = bootBuiltins x) (hlim : s₁.heap.NoLimit) (hg : s₁.gens = #[])
    (ha : s₁.heap.get? a = some { cls := .type "list", data := .seq vs.toArray }) (hr : Room k callerA) (F : ∀ base : Heap, K.In base → base.Ns mainGlobals mg → FnG True P w K mg base k fa fd [x] sp)
    (bnd : ∀ (s : Shared) (u : Value), BindsTo s fd ⟨[u], []⟩ [(x, u)]) (H : Hp) (hsp : sp [.ref a] H (fun v _ => v = .bl true) fun _ _ _ => False) (hok : HOk P w H s₁.heap) (hO : Only H)
    (hA : ∀ b, H b ≠ none → b = a) (hK : H a ≠ none → K.lookup a = none) : codeAny (model P w) callerA (.call (.ref fa) ⟨[.ref a], []⟩) (Kept s₁) s₁ := by
  have nd : ∀ {b : Addr} {o : Obj} {es : Array DictEntry} {n : Nat}, s₁.heap.get? b = some o → o.data = .dict es n → H b = none := by
    intro b o es n e d
    cases q : H b with
    | none => rfl
    | some u =>
      have z := hA b (by rw [q]; exact fun z => nomatch z)
      rw [z, ha] at e
      cases e
      exact nomatch d
  have tr : ∀ {b : Addr} {m : Str → Option Value}, s₁.heap.Ns b m → (hidT s₁.heap H).Ns b m := by
    rintro b m ⟨o, es, n, e, d, r⟩
    exact ⟨o, es, n, hidT_get e (nd e d), d, r⟩
  have kb : K.In (hidT s₁.heap H) := by
    intro b o e
    refine hidT_get (KX b o e) ?_
    cases q : H b with
    | none => rfl
    | some u =>
      have n : H b ≠ none := by rw [q]; exact fun z => nomatch z
      have z := hA b n
      rw [z] at n e
      rw [hK n] at e
      cases e
  have md : Mod K mg (hidT s₁.heap H) := by
    refine ⟨kb, tr hns, ⟨mb, tr hb, hbb⟩, ?_⟩
    obtain ⟨mc, h1, h2⟩ := hlim
    exact ⟨mc, tr h1, h2⟩
  have e0 : Env0 P w K mg (hidT s₁.heap H) callerA [] s₁ H :=
    ⟨rfl, md, fun b o => of_hidT, Nat.le_of_eq (hidT_size _ _), trivial, (fun b z => absurd (show b ∈ ([] : List Addr) from z) (by simp)), hok, .of_eq hg⟩
  refine codeAny_mono ((F _ kb (tr hns)).run callerA [] s₁ H ⟨[.ref a], []⟩ [.ref a] [.ref a] _ _ (fun _ => rfl) hr e0 (bnd s₁ (.ref a)) (.cons rfl .nil) hsp) fun r s' h => ?_
  match r, h with
  | .error e, ⟨_, _, _, _, _, _, _, _, _, _, _, _, z⟩ => exact z.elim
  | .ok (.ret u), ⟨v, H', os, bare, un, hok', r', q⟩ =>
    have q' : v = .bl true := q
    rw [q'] at r'
    have r2 : u = .bool true := r'
    refine ⟨by rw [r2], OldK.of_keep fun b o e => ?_, os, bare⟩
    rcases hO b with z | ⟨ob, xs, z⟩
    · exact un.keep b o e z (fun m => absurd (show b ∈ ([] : List Addr) from m) (by simp)) (by simp)
    · have y := un.frzs b ob _ z
      have y1 := (hok b _ z).1
      rw [e] at y1
      cases y1
      exact (hok' b _ y).1
theorem callG (KX : K.In s₁.heap) (hns : s₁.heap.Ns mainGlobals mg) (hb : s₁.heap.Ns builtinsNs mb) (hbb : ∀ x : Str, x ≠ "__name__" → mb x = bootBuiltins x) (hlim : s₁.heap.NoLimit) (hg : s₁.gens = #[])
    (ha : s₁.heap.get? a = some { cls := .type "list", data := .seq vs.toArray }) (hi : IntsAre vs ns) (hl : ns.length ≤ sizeLine) (hr : Room k callerA) (F : ∀ base : Heap, K.In base → base.Ns mainGlobals mg → FnG True P w K mg base k fa fd [x] sp)
    (bnd : ∀ (s : Shared) (u : Value), BindsTo s fd ⟨[u], []⟩ [(x, u)]) (hsp : ∀ H : Hp, Only H → SqL K H a (ns.map V.int) → sp [.ref a] H (fun v _ => v = .bl true) fun _ _ _ => False) : codeAny (model P w) callerA (.call (.ref fa) ⟨[.ref a], []⟩) (Kept s₁) s₁ := by
  have rv := vals_ints hi
  have lv := hi.length
  cases hk : K.lookup a with
  | some o =>
    have e := KX a o hk
    rw [ha] at e
    cases e
    have O : Only fun _ => none := fun _ => .inl rfl
    refine call_from KX hns hb hbb hlim hg ha hr F bnd (fun _ => none) (hsp _ O (.inr ⟨_, vs.toArray, _, hk, rfl, rfl, rfl, ?_, by simpa using rv⟩)) (fun b u z => nomatch (show (none : Option HO) = some u from z)) O (fun b z => absurd rfl z) fun z => absurd rfl z
    rw [List.size_toArray, lv]
    exact hl
  | none =>
    obtain ⟨ob, hob⟩ : ∃ ob : Obj, ob = { cls := .type "list", data := .seq vs.toArray } := ⟨_, rfl⟩
    obtain ⟨Hs, h1, h2⟩ : ∃ Hs : Hp, Hs a = some (.frz ob (.lst (ns.map V.int))) ∧ ∀ b, b ≠ a → Hs b = none := ⟨fun b => if b = a then some (.frz ob (.lst (ns.map V.int))) else none, if_pos rfl, fun b n => if_neg n⟩
    have only : Only Hs := fun b => by
      by_cases e : b = a
      · exact .inr ⟨_, _, by rw [e]; exact h1⟩
      · exact .inl (h2 b e)
    refine call_from KX hns hb hbb hlim hg ha hr F bnd Hs (hsp Hs only (.inl (.inr ⟨ob, h1⟩))) (fun b u z => ?_) only (fun b z => ?_) fun _ => hk
    · by_cases e : b = a
      · rw [e, h1] at z
        cases z
        rw [e]
        exact ⟨by rw [hob]; exact ha, by rw [List.length_map]; exact hl, vs, _, rv, ha⟩
      · rw [h2 b e] at z
        cases z
    · by_cases e : b = a
      · exact e
      · exact absurd (h2 b e) z
theorem walkG {l : PySem.W.OpenLaw} {n k : Nat} {q : Program} {loose : List Str} {XP : (Str → Option Value) → Heap → Prop} {YP : World → Heap → Prop} {d : DefRec} {K : Params → PySem.W.Frag} {sp : PySem.W.Frag → Sp} {x : Str} (hn : l.most = some n) (hn2 : n ≤ sizeLine) (hdf : d.params.defaults = []) (hr : Room k callerA)
    (hY : ∀ (w : World) (h : Heap), YP w h → (K w.params).In h)
    (F : ∀ (w : World) (mg : Str → Option Value) (fa : Addr) (h : Heap), (K w.params).In h → h.Ns mainGlobals mg → mg d.name = some (.ref fa) →
      ∃ fd : FuncData, (∀ (s : Shared) (u : Value), BindsTo s fd ⟨[u], []⟩ [(x, u)]) ∧ ∀ base : Heap, (K w.params).In base → base.Ns mainGlobals mg → FnG True l.prog w (K w.params) mg base k fa fd [x] (sp (K w.params)))
    (hsp : ∀ (K : PySem.W.Frag) (H : Hp) (a : Addr) (ns : List Int), ns.length ≤ n → Only H → SqL K H a (ns.map V.int) → sp K [.ref a] H (fun v _ => v = .bl true) fun _ _ _ => False) :
    PySem.W.WalkO q loose XP YP l.row.toRowW d [] (fun f vs => PySem.call f vs) := by
  refine Att.attach_call hn hdf ?_
  intro w s₀ s₁ mg mb fa o pm cd doc a vs ns G Y ho hd hcd hmg hobj hints hlen hg
  have KX := hY w _ Y
  obtain ⟨fd, hb, hF⟩ := F w mg fa _ KX G.T.g hmg
  exact callG KX G.T.g G.T.b G.T.builtins G.T.nolimit hg hobj hints (Nat.le_trans hlen hn2) hr hF hb fun H hO hS => hsp (K w.params) H a ns hlen hO hS
end
end Dn

set_option Elab.async false
set_option linter.all false
set_option autoImplicit false
set_option maxRecDepth 100000
set_option maxHeartbeats 4000000
namespace K1
open PySem PySem.Spec PyProof.Rows L2 Dn
def top (i : Nat) : Stmt := PySem.Challenge.pw_closereckoned_k01_whole_settings_and_quo.main.body.getD i (.Pass ⟨0, 0, 0, 0⟩)
abbrev SrcG := Int × List Int
structure Tw where
  p : Addr
  c : Addr
  ne : p ≠ c
abbrev twFp (t : Tw) (a : Addr) : Prop := a = t.p ∨ a = t.c
abbrev twR (t : Tw) (g : SrcG) (H : Hp) : Prop := H t.p = some (.dK [(.inr "cells", .ref t.c), (.inr "turn", .int g.1)]) ∧ H t.c = some (.lst (g.2.map V.int))
def Fm (t : Tw) : Rs SrcG := ⟨t.p, twFp t, twR t, fun g H H' e h => ⟨(e _ (.inl rfl)).trans h.1, (e _ (.inr rfl)).trans h.2⟩, fun g H a h e => by
  rcases e with e | e
  · rw [e, h.1]; exact fun z => nomatch z
  · rw [e, h.2]; exact fun z => nomatch z⟩
structure Bk (mg : Str → Option Value) : Prop extends Bi mg where
  gcd : mg "gcd" = some (.builtin "math.gcd")
/-- what one draw gives: the value, the turn and the cells behind it -/
def drawF (g : SrcG) (top : Int) : Int × SrcG :=
  let t := g.1 + 1
  if g.2 = [] then (0, (t, g.2)) else
  let i := ((t + 2) % (g.2.length : Int)).toNat
  let cell := g.2.getD i 0
  if 1000000000000000000 ≤ cell then (cell % top, (t, g.2.set i (cell / top))) else
  let once := (cell * 6091 + t * 130363) % 999983
  let twice := (once * once + 17 * cell + t) % 32452843
  ((twice / 5) % top, (t, g.2))
def v__law_draw (_ : Addr) : List SV → SrcG → Out SrcG := fun ys g => match ys with
  | [.h, .d (.int top)] => if 0 < top ∧ top < 1073741824 ∧ 0 < g.2.length ∧ g.2.length ≤ 63 ∨ g.2 = [] then .ok (.d (.int (drawF g top).1)) (drawF g top).2 else .stuck
  | _ => .stuck
section
variable {gd : Prop} {P : Program} {w : World} {K : PySem.W.Frag} {mg : Str → Option Value} {base : Heap} {C_NotUsable : Addr}
abbrev s_is_integer : Stmt := top 6
theorem sc_is_integer : FnScope [("thing" : Str)] [("thing" : Str)] (defScope s_is_integer) := ⟨rfl, rfl, rfl, by decide +kernel, rfl, by decide +kernel, by decide +kernel⟩
def p_is_integer (C_NotUsable : Addr) : SFn Unit := (sRet (fAnd (fIsi "int" (fVar 0)) (fNot (fIsi "bool" (fVar 0)))))
def v_is_integer (C_NotUsable : Addr) : List PyData → Out Unit := runP [("thing" : Str)] (p_is_integer C_NotUsable)
theorem f_is_integer (B : Bk mg) (e_NotUsable : Ex2 P w K mg base "NotUsable" C_NotUsable "word" "at") {f : Addr} {fd : FuncData} (F : Fun K "is_integer" "is_integer" s_is_integer f fd) : FnG gd P w K mg base 1 f fd [("thing" : Str)] (spP K 1 (v_is_integer C_NotUsable)) := fnP F sc_is_integer fun cdv A outer s H D E hr tk hp hG => by
  have nd := sc_is_integer.nd
  exact (dsone (dret (dand (disi (dvar 0) B.isinstance B.int (by decide +kernel)) (done1 (dnot (disi (dvar 0) B.isinstance B.bool (by decide +kernel)))))))
abbrev s_is_number : Stmt := top 7
theorem sc_is_number : FnScope [("thing" : Str)] [("thing" : Str)] (defScope s_is_number) := ⟨rfl, rfl, rfl, by decide +kernel, rfl, by decide +kernel, by decide +kernel⟩
def p_is_number (C_NotUsable : Addr) : SFn Unit := (sRet (fAnd (fCall 1 (v_is_integer C_NotUsable) (aCons (fVar 0) aNil)) (fOp oGe (fVar 0) (fC (.int 0)))))
def v_is_number (C_NotUsable : Addr) : List PyData → Out Unit := runP [("thing" : Str)] (p_is_number C_NotUsable)
theorem f_is_number (B : Bk mg) (e_NotUsable : Ex2 P w K mg base "NotUsable" C_NotUsable "word" "at") (c_is_integer : Dfn gd P w K mg base 1 "is_integer" 1 (v_is_integer C_NotUsable)) {f : Addr} {fd : FuncData} (F : Fun K "is_number" "is_number" s_is_number f fd) : FnG gd P w K mg base 2 f fd [("thing" : Str)] (spP K 1 (v_is_number C_NotUsable)) := fnP F sc_is_number fun cdv A outer s H D E hr tk hp hG => by
  have nd := sc_is_number.nd
  exact (dsone (dret (dand (dcallD tk hG c_is_integer (hr.mono (by omega)) (dacons (dvar 0) danil)) (done1 (dcmp op_ge kGe (dvar 0) dint)))))
abbrev s_is_many : Stmt := top 9
theorem sc_is_many : FnScope [("thing" : Str)] [("thing" : Str)] (defScope s_is_many) := ⟨rfl, rfl, rfl, by decide +kernel, rfl, by decide +kernel, by decide +kernel⟩
def p_is_many (C_NotUsable : Addr) : SFn Unit := (sRet (fAnd (fCall 1 (v_is_integer C_NotUsable) (aCons (fVar 0) aNil)) (fOp oGe (fVar 0) (fC (.int 1)))))
def v_is_many (C_NotUsable : Addr) : List PyData → Out Unit := runP [("thing" : Str)] (p_is_many C_NotUsable)
theorem f_is_many (B : Bk mg) (e_NotUsable : Ex2 P w K mg base "NotUsable" C_NotUsable "word" "at") (c_is_integer : Dfn gd P w K mg base 1 "is_integer" 1 (v_is_integer C_NotUsable)) {f : Addr} {fd : FuncData} (F : Fun K "is_many" "is_many" s_is_many f fd) : FnG gd P w K mg base 2 f fd [("thing" : Str)] (spP K 1 (v_is_many C_NotUsable)) := fnP F sc_is_many fun cdv A outer s H D E hr tk hp hG => by
  have nd := sc_is_many.nd
  exact (dsone (dret (dand (dcallD tk hG c_is_integer (hr.mono (by omega)) (dacons (dvar 0) danil)) (done1 (dcmp op_ge kGe (dvar 0) dint)))))
abbrev s_is_sizes : Stmt := top 8
theorem sc_is_sizes : FnScope [("thing" : Str), ("size" : Str)] [("thing" : Str)] (defScope s_is_sizes) := ⟨rfl, rfl, rfl, by decide +kernel, rfl, by decide +kernel, by decide +kernel⟩
def p_is_sizes (C_NotUsable : Addr) : SFn Unit := (sRet (fAnd (fIsi "tuple" (fVar 0)) (fAnd (fOp oGt (fCB bLen (aCons (fVar 0) aNil)) (fC (.int 0))) (fCB bAll (aCons (fLc [1] (iAny (fVar 0)) (asgN 1) fYes (fCall 1 (v_is_many C_NotUsable) (aCons (fVar 1) aNil))) aNil)))))
def v_is_sizes (C_NotUsable : Addr) : List PyData → Out Unit := runP [("thing" : Str), ("size" : Str)] (p_is_sizes C_NotUsable)
theorem f_is_sizes (B : Bk mg) (e_NotUsable : Ex2 P w K mg base "NotUsable" C_NotUsable "word" "at") (c_is_many : Dfn gd P w K mg base 2 "is_many" 1 (v_is_many C_NotUsable)) {f : Addr} {fd : FuncData} (F : Fun K "is_sizes" "is_sizes" s_is_sizes f fd) : FnG gd P w K mg base 3 f fd [("thing" : Str)] (spP K 1 (v_is_sizes C_NotUsable)) := fnP F sc_is_sizes fun cdv A outer s H D E hr tk hp hG => by
  have nd := sc_is_sizes.nd
  exact (dsone (dret (dand (disi (dvar 0) B.isinstance B.tuple (by decide +kernel)) (dand (dcmp op_gt kGt (dcb call_len kLen B.len (by decide +kernel) (dacons (dvar 0) danil)) dint) (done1 (dcb (cr_all rfl) kAll B.all (by decide +kernel) (dacons (dlc0 (own := [("size", 1)]) rfl nd (diany (dvar 0)) (blkOk_by (by rfl)) (fun _ _ _ _ _ => (dgN 1 nd)) (tgN 1) (towN (by decide)) (fun _ _ _ _ _ => (dcallD takes0 hG c_is_many (hr.mono (by omega)) (dacons (dvar 1) danil)))) danil)))))))
abbrev s_is_index : Stmt := top 10
theorem sc_is_index : FnScope [("many" : Str), ("thing" : Str)] [("many" : Str), ("thing" : Str)] (defScope s_is_index) := ⟨rfl, rfl, rfl, by decide +kernel, rfl, by decide +kernel, by decide +kernel⟩
def p_is_index (C_NotUsable : Addr) : SFn Unit := (sRet (fAnd (fCall 1 (v_is_number C_NotUsable) (aCons (fVar 1) aNil)) (fOp oLt (fVar 1) (fVar 0))))
def v_is_index (C_NotUsable : Addr) : List PyData → Out Unit := runP [("many" : Str), ("thing" : Str)] (p_is_index C_NotUsable)
theorem f_is_index (B : Bk mg) (e_NotUsable : Ex2 P w K mg base "NotUsable" C_NotUsable "word" "at") (c_is_number : Dfn gd P w K mg base 2 "is_number" 1 (v_is_number C_NotUsable)) {f : Addr} {fd : FuncData} (F : Fun K "is_index" "is_index" s_is_index f fd) : FnG gd P w K mg base 3 f fd [("many" : Str), ("thing" : Str)] (spP K 2 (v_is_index C_NotUsable)) := fnP F sc_is_index fun cdv A outer s H D E hr tk hp hG => by
  have nd := sc_is_index.nd
  exact (dsone (dret (dand (dcallD tk hG c_is_number (hr.mono (by omega)) (dacons (dvar 1) danil)) (done1 (dcmp op_lt kLt (dvar 1) (dvar 0))))))
abbrev s_is_ascending : Stmt := top 11
theorem sc_is_ascending : FnScope [("things" : Str), ("k" : Str)] [("things" : Str)] (defScope s_is_ascending) := ⟨rfl, rfl, rfl, by decide +kernel, rfl, by decide +kernel, by decide +kernel⟩
def p_is_ascending (C_NotUsable : Addr) : SFn Unit := (sRet (fCB bAll (aCons (fLc [1] (iRng2F (aCons (fC (.int 1)) (aCons (fCB bLen (aCons (fVar 0) aNil)) aNil))) (asgN 1) fYes (fOp oLt (fOp oIx (fVar 0) (fOp oSub (fVar 1) (fC (.int 1)))) (fOp oIx (fVar 0) (fVar 1)))) aNil)))
def v_is_ascending (C_NotUsable : Addr) : List PyData → Out Unit := runP [("things" : Str), ("k" : Str)] (p_is_ascending C_NotUsable)
theorem f_is_ascending (B : Bk mg) (e_NotUsable : Ex2 P w K mg base "NotUsable" C_NotUsable "word" "at") {f : Addr} {fd : FuncData} (F : Fun K "is_ascending" "is_ascending" s_is_ascending f fd) : FnG gd P w K mg base 1 f fd [("things" : Str)] (spP K 1 (v_is_ascending C_NotUsable)) := fnP F sc_is_ascending fun cdv A outer s H D E hr tk hp hG => by
  have nd := sc_is_ascending.nd
  exact (dsone (dret (dcb (cr_all rfl) kAll B.all (by decide +kernel) (dacons (dlc0 (own := [("k", 1)]) rfl nd (dirng2 rfl B.range (dacons dint (dacons (dcb call_len kLen B.len (by decide +kernel) (dacons (dvar 0) danil)) danil))) (blkOk_by (by rfl)) (fun _ _ _ _ _ => (dgN 1 nd)) (tgN 1) (towN (by decide)) (fun _ _ _ _ _ => (dcmp op_lt kLt (dix ix_seq kIx (dvar 0) (dop op_sub kSub (dvar 1) dint)) (dix ix_seq kIx (dvar 0) (dvar 1))))) danil))))
abbrev s_right_setting : Stmt := top 12
theorem sc_right_setting : FnScope [("sizes" : Str), ("thing" : Str), ("size" : Str), ("choice" : Str)] [("sizes" : Str), ("thing" : Str)] (defScope s_right_setting) := ⟨rfl, rfl, rfl, by decide +kernel, rfl, by decide +kernel, by decide +kernel⟩
def p_right_setting (C_NotUsable : Addr) : SFn Unit := (sSeq (sIf (fOr (fNot (fIsi "tuple" (fVar 1))) (fOp oNeS (fCB bLen (aCons (fVar 1) aNil)) (fCB bLen (aCons (fVar 0) aNil)))) (sRet (fC (.bool false))) sNil)
  (sRet (fCB bAll (aCons (fLc [2, 3] (iZipF (aCons (fVar 0) (aCons (fVar 1) aNil))) (asgT 2 (asgCons (asgN 2) (asgCons (asgN 3) asgNil))) fYes (fCall 2 (v_is_index C_NotUsable) (aCons (fVar 2) (aCons (fVar 3) aNil)))) aNil))))
def v_right_setting (C_NotUsable : Addr) : List PyData → Out Unit := runP [("sizes" : Str), ("thing" : Str), ("size" : Str), ("choice" : Str)] (p_right_setting C_NotUsable)
theorem f_right_setting (B : Bk mg) (e_NotUsable : Ex2 P w K mg base "NotUsable" C_NotUsable "word" "at") (c_is_index : Dfn gd P w K mg base 3 "is_index" 2 (v_is_index C_NotUsable)) {f : Addr} {fd : FuncData} (F : Fun K "right_setting" "right_setting" s_right_setting f fd) : FnG gd P w K mg base 4 f fd [("sizes" : Str), ("thing" : Str)] (spP K 2 (v_right_setting C_NotUsable)) := fnP F sc_right_setting fun cdv A outer s H D E hr tk hp hG => by
  have nd := sc_right_setting.nd
  exact (dscons (dif_ (dtw (dwor (dtnot (dtval (disi (dvar 1) B.isinstance B.tuple (by decide +kernel)))) (dwor1 (dtcmp (op_neS (hu64 hr)) kNeS (dcb call_len kLen B.len (by decide +kernel) (dacons (dvar 1) danil)) (dcb call_len kLen B.len (by decide +kernel) (dacons (dvar 0) danil)))))) (dsone (dret dbl)) dsnil)
  (dsone (dret (dcb (cr_all rfl) kAll B.all (by decide +kernel) (dacons (dlc0 (own := [("size", 2), ("choice", 3)]) rfl nd (dizip rfl B.zip (dacons (dvar 0) (dacons (dvar 1) danil))) (blkOk_by (by rfl)) (fun _ _ _ _ _ => (pg_tup (n := 2) rfl (pgs_cons (dgN 2 nd) (pgs_cons (dgN 3 nd) pgs_nil)))) (tgT (tgsCons (tgN 2) (tgsCons (tgN 3) tgsNil))) (towT (towCons (towN (by decide)) tmN (towCons (towN (by decide)) tmN towNil tmNil) (tmCons tmN tmNil))) (fun _ _ _ _ _ => (dcallD takes0 hG c_is_index (hr.mono (by omega)) (dacons (dvar 2) (dacons (dvar 3) danil))))) danil)))))
abbrev s_right_lot : Stmt := top 13
theorem sc_right_lot : FnScope [("many" : Str), ("thing" : Str), ("house" : Str)] [("many" : Str), ("thing" : Str)] (defScope s_right_lot) := ⟨rfl, rfl, rfl, by decide +kernel, rfl, by decide +kernel, by decide +kernel⟩
def p_right_lot (C_NotUsable : Addr) : SFn Unit := (sSeq (sIf (fOr (fNot (fIsi "tuple" (fVar 1))) (fNot (fCB bAll (aCons (fLc [2] (iAny (fVar 1)) (asgN 2) fYes (fCall 2 (v_is_index C_NotUsable) (aCons (fVar 0) (aCons (fVar 2) aNil)))) aNil)))) (sRet (fC (.bool false))) sNil)
  (sRet (fCall 1 (v_is_ascending C_NotUsable) (aCons (fVar 1) aNil))))
def v_right_lot (C_NotUsable : Addr) : List PyData → Out Unit := runP [("many" : Str), ("thing" : Str), ("house" : Str)] (p_right_lot C_NotUsable)
theorem f_right_lot (B : Bk mg) (e_NotUsable : Ex2 P w K mg base "NotUsable" C_NotUsable "word" "at") (c_is_ascending : Dfn gd P w K mg base 1 "is_ascending" 1 (v_is_ascending C_NotUsable)) (c_is_index : Dfn gd P w K mg base 3 "is_index" 2 (v_is_index C_NotUsable)) {f : Addr} {fd : FuncData} (F : Fun K "right_lot" "right_lot" s_right_lot f fd) : FnG gd P w K mg base 4 f fd [("many" : Str), ("thing" : Str)] (spP K 2 (v_right_lot C_NotUsable)) := fnP F sc_right_lot fun cdv A outer s H D E hr tk hp hG => by
  have nd := sc_right_lot.nd
  exact (dscons (dif_ (dtw (dwor (dtnot (dtval (disi (dvar 1) B.isinstance B.tuple (by decide +kernel)))) (dwor1 (dtnot (dtval (dcb (cr_all rfl) kAll B.all (by decide +kernel) (dacons (dlc0 (own := [("house", 2)]) rfl nd (diany (dvar 1)) (blkOk_by (by rfl)) (fun _ _ _ _ _ => (dgN 2 nd)) (tgN 2) (towN (by decide)) (fun _ _ _ _ _ => (dcallD takes0 hG c_is_index (hr.mono (by omega)) (dacons (dvar 0) (dacons (dvar 2) danil))))) danil))))))) (dsone (dret dbl)) dsnil)
  (dsone (dret (dcallD tk hG c_is_ascending (hr.mono (by omega)) (dacons (dvar 1) danil)))))
abbrev s_need : Stmt := top 15
theorem sc_need : FnScope [("holds" : Str), ("word" : Str)] [("holds" : Str), ("word" : Str)] (defScope s_need) := ⟨rfl, rfl, rfl, by decide +kernel, rfl, by decide +kernel, by decide +kernel⟩
def p_need (C_NotUsable : Addr) : SFn Unit := (sIf (fNot (fVar 0)) (sRaise2 C_NotUsable "word" "at" (aCons (fVar 1) (aCons (fUn oNeg (fC (.int 1))) aNil))) sNil)
def v_need (C_NotUsable : Addr) : List PyData → Out Unit := runP [("holds" : Str), ("word" : Str)] (p_need C_NotUsable)
theorem f_need (B : Bk mg) (e_NotUsable : Ex2 P w K mg base "NotUsable" C_NotUsable "word" "at") {f : Addr} {fd : FuncData} (F : Fun K "need" "need" s_need f fd) : FnG gd P w K mg base 3 f fd [("holds" : Str), ("word" : Str)] (spP K 2 (v_need C_NotUsable)) := fnP F sc_need fun cdv A outer s H D E hr tk hp hG => by
  have nd := sc_need.nd
  exact (dsone (dif_ (dtnot (dtval (dvar 0))) (dsone (draise2 (k := 0) tk e_NotUsable rfl (hr.mono (by omega)) (dacons (dvar 1) (dacons (dun un_neg kNeg dint) danil)))) dsnil))
abbrev s_need_sizes : Stmt := top 16
theorem sc_need_sizes : FnScope [("sizes" : Str)] [("sizes" : Str)] (defScope s_need_sizes) := ⟨rfl, rfl, rfl, by decide +kernel, rfl, by decide +kernel, by decide +kernel⟩
def p_need_sizes (C_NotUsable : Addr) : SFn Unit := (sDrop (fCall 2 (v_need C_NotUsable) (aCons (fCall 1 (v_is_sizes C_NotUsable) (aCons (fVar 0) aNil)) (aCons (fC (.str "sizes")) aNil))))
def v_need_sizes (C_NotUsable : Addr) : List PyData → Out Unit := runP [("sizes" : Str)] (p_need_sizes C_NotUsable)
theorem f_need_sizes (B : Bk mg) (e_NotUsable : Ex2 P w K mg base "NotUsable" C_NotUsable "word" "at") (c_is_sizes : Dfn gd P w K mg base 3 "is_sizes" 1 (v_is_sizes C_NotUsable)) (c_need : Dfn gd P w K mg base 3 "need" 2 (v_need C_NotUsable)) {f : Addr} {fd : FuncData} (F : Fun K "need_sizes" "need_sizes" s_need_sizes f fd) : FnG gd P w K mg base 4 f fd [("sizes" : Str)] (spP K 1 (v_need_sizes C_NotUsable)) := fnP F sc_need_sizes fun cdv A outer s H D E hr tk hp hG => by
  have nd := sc_need_sizes.nd
  exact (dsone (dexpr (dcallD tk hG c_need (hr.mono (by omega)) (dacons (dcallD tk hG c_is_sizes (hr.mono (by omega)) (dacons (dvar 0) danil)) (dacons dstr danil)))))
abbrev s_need_lot : Stmt := top 17
theorem sc_need_lot : FnScope [("many" : Str), ("lot" : Str)] [("many" : Str), ("lot" : Str)] (defScope s_need_lot) := ⟨rfl, rfl, rfl, by decide +kernel, rfl, by decide +kernel, by decide +kernel⟩
def p_need_lot (C_NotUsable : Addr) : SFn Unit := (sDrop (fCall 2 (v_need C_NotUsable) (aCons (fCall 2 (v_right_lot C_NotUsable) (aCons (fVar 0) (aCons (fVar 1) aNil))) (aCons (fC (.str "lot")) aNil))))
def v_need_lot (C_NotUsable : Addr) : List PyData → Out Unit := runP [("many" : Str), ("lot" : Str)] (p_need_lot C_NotUsable)
theorem f_need_lot (B : Bk mg) (e_NotUsable : Ex2 P w K mg base "NotUsable" C_NotUsable "word" "at") (c_need : Dfn gd P w K mg base 3 "need" 2 (v_need C_NotUsable)) (c_right_lot : Dfn gd P w K mg base 4 "right_lot" 2 (v_right_lot C_NotUsable)) {f : Addr} {fd : FuncData} (F : Fun K "need_lot" "need_lot" s_need_lot f fd) : FnG gd P w K mg base 5 f fd [("many" : Str), ("lot" : Str)] (spP K 2 (v_need_lot C_NotUsable)) := fnP F sc_need_lot fun cdv A outer s H D E hr tk hp hG => by
  have nd := sc_need_lot.nd
  exact (dsone (dexpr (dcallD tk hG c_need (hr.mono (by omega)) (dacons (dcallD tk hG c_right_lot (hr.mono (by omega)) (dacons (dvar 0) (dacons (dvar 1) danil))) (dacons dstr danil)))))
abbrev s_need_setting : Stmt := top 18
theorem sc_need_setting : FnScope [("sizes" : Str), ("setting" : Str)] [("sizes" : Str), ("setting" : Str)] (defScope s_need_setting) := ⟨rfl, rfl, rfl, by decide +kernel, rfl, by decide +kernel, by decide +kernel⟩
def p_need_setting (C_NotUsable : Addr) : SFn Unit := (sDrop (fCall 2 (v_need C_NotUsable) (aCons (fCall 2 (v_right_setting C_NotUsable) (aCons (fVar 0) (aCons (fVar 1) aNil))) (aCons (fC (.str "setting")) aNil))))
def v_need_setting (C_NotUsable : Addr) : List PyData → Out Unit := runP [("sizes" : Str), ("setting" : Str)] (p_need_setting C_NotUsable)
theorem f_need_setting (B : Bk mg) (e_NotUsable : Ex2 P w K mg base "NotUsable" C_NotUsable "word" "at") (c_need : Dfn gd P w K mg base 3 "need" 2 (v_need C_NotUsable)) (c_right_setting : Dfn gd P w K mg base 4 "right_setting" 2 (v_right_setting C_NotUsable)) {f : Addr} {fd : FuncData} (F : Fun K "need_setting" "need_setting" s_need_setting f fd) : FnG gd P w K mg base 5 f fd [("sizes" : Str), ("setting" : Str)] (spP K 2 (v_need_setting C_NotUsable)) := fnP F sc_need_setting fun cdv A outer s H D E hr tk hp hG => by
  have nd := sc_need_setting.nd
  exact (dsone (dexpr (dcallD tk hG c_need (hr.mono (by omega)) (dacons (dcallD tk hG c_right_setting (hr.mono (by omega)) (dacons (dvar 0) (dacons (dvar 1) danil))) (dacons dstr danil)))))
abbrev s_settings_many : Stmt := top 25
theorem sc_settings_many : FnScope [("sizes" : Str), ("many" : Str), ("size" : Str)] [("sizes" : Str)] (defScope s_settings_many) := ⟨rfl, rfl, rfl, by decide +kernel, rfl, by decide +kernel, by decide +kernel⟩
def p_settings_many (C_NotUsable : Addr) : SFn Unit := (sSeq (sAsg 1 (fC (.int 1)))
  (sSeq (sFor (iAny (fVar 0)) (asgN 2) (sAsg 1 (fOp oMul (fVar 1) (fVar 2))))
  (sRetV 1)))
def v_settings_many (C_NotUsable : Addr) : List PyData → Out Unit := runP [("sizes" : Str), ("many" : Str), ("size" : Str)] (p_settings_many C_NotUsable)
theorem f_settings_many (B : Bk mg) (e_NotUsable : Ex2 P w K mg base "NotUsable" C_NotUsable "word" "at") {f : Addr} {fd : FuncData} (F : Fun K "settings_many" "settings_many" s_settings_many f fd) : FnG gd P w K mg base 1 f fd [("sizes" : Str)] (spP K 1 (v_settings_many C_NotUsable)) := fnP F sc_settings_many fun cdv A outer s H D E hr tk hp hG => by
  have nd := sc_settings_many.nd
  exact (dscons (dset 1 nd dint)
  (dscons (dfor hp rfl (diany (dvar 0)) (dgN 2 nd) (tgN 2) (dsone (dset 1 nd (dop op_mulW kMul (dvar 1) (dvar 2)))))
  (dsone (dretv 1 (pv 1)))))
abbrev s_setting_from : Stmt := top 27
theorem sc_setting_from : FnScope [("sizes" : Str), ("place" : Str), ("choices" : Str), ("size" : Str), ("choice" : Str)] [("sizes" : Str), ("place" : Str)] (defScope s_setting_from) := ⟨rfl, rfl, rfl, by decide +kernel, rfl, by decide +kernel, by decide +kernel⟩
def p_setting_from (C_NotUsable : Addr) : SFn Unit := (sSeq (sAsg 2 (fLst aNil))
  (sSeq (sFor (iAny (fFrz (fRevA (fVar 0)))) (asgN 3) (sSeq (sUnp (asgT 2 (asgCons (asgN 1) (asgCons (asgN 4) asgNil))) (fCB bDivmod (aCons (fVar 1) (aCons (fVar 3) aNil))))
  (sApp 2 (fVar 4))))
  (sRet (fCB bTuple (aCons (fRevA (fVar 2)) aNil)))))
def v_setting_from (C_NotUsable : Addr) : List PyData → Out Unit := runP [("sizes" : Str), ("place" : Str), ("choices" : Str), ("size" : Str), ("choice" : Str)] (p_setting_from C_NotUsable)
theorem f_setting_from (B : Bk mg) (e_NotUsable : Ex2 P w K mg base "NotUsable" C_NotUsable "word" "at") {f : Addr} {fd : FuncData} (F : Fun K "setting_from" "setting_from" s_setting_from f fd) : FnG gd P w K mg base 1 f fd [("sizes" : Str), ("place" : Str)] (spP K 2 (v_setting_from C_NotUsable)) := fnP F sc_setting_from fun cdv A outer s H D E hr tk hp hG => by
  have nd := sc_setting_from.nd
  exact (dscons (dset 2 nd (dlst danil))
  (dscons (dfor hp rfl (diany (dfrz (drev (dvar 0)))) (dgN 3 nd) (tgN 3) (dscons (dunp (dcb call_divmod kDivmod B.divmod (by decide +kernel) (dacons (dvar 1) (dacons (dvar 3) danil))) (pg_tup (n := 2) rfl (pgs_cons (dgN 1 nd) (pgs_cons (dgN 4 nd) pgs_nil))) (tgT (tgsCons (tgN 1) (tgsCons (tgN 4) tgsNil))))
  (dsone (dapp 2 (pv 2) (dvar 4)))))
  (dsone (dret (dct call_tuple_of kTuple B.tuple (by decide +kernel) (dacons (drev (dvar 2)) danil))))))
abbrev s_settings_of : Stmt := top 20
theorem sc_settings_of : GScope [("sizes" : Str), ("place" : Str)] [("sizes" : Str)] (defScope s_settings_of) := ⟨rfl, rfl, rfl, by decide +kernel, rfl, by decide +kernel, by decide +kernel⟩
def p_settings_of (C_NotUsable : Addr) : GFnD := (sSeq (gLift (sDrop (fCall 1 (v_need_sizes C_NotUsable) (aCons (fVar 0) aNil))))
  (sSeq (gFor (iRng1F (aCons (fCall 1 (v_settings_many C_NotUsable) (aCons (fVar 0) aNil)) aNil)) (asgN 1) (sSeq (gYield (fCall 2 (v_setting_from C_NotUsable) (aCons (fVar 0) (aCons (fVar 1) aNil))))
  gNil))
  gNil))
def v_settings_of (C_NotUsable : Addr) : List PyData → OutI Unit := runG [("sizes" : Str), ("place" : Str)] (p_settings_of C_NotUsable)
theorem f_settings_of (B : Bk mg) (e_NotUsable : Ex2 P w K mg base "NotUsable" C_NotUsable "word" "at") (c_need_sizes : Dfn False P w K mg base 4 "need_sizes" 1 (v_need_sizes C_NotUsable)) (c_setting_from : Dfn False P w K mg base 1 "setting_from" 2 (v_setting_from C_NotUsable)) (c_settings_many : Dfn False P w K mg base 1 "settings_many" 1 (v_settings_many C_NotUsable)) {f : Addr} {fd : FuncData} (F : Fun K "settings_of" "settings_of" s_settings_of f fd) : GFn P w K mg base 5 f fd [("sizes" : Str)] (spG K 1 (v_settings_of C_NotUsable)) := fnGen F sc_settings_of fun cdv A outer s H D E pn hr tk hp => by
  have nd := sc_settings_of.nd
  have hG : False → A.guards = some [] := False.elim
  exact (gdcons (gplain (dexpr (dcallD tk hG c_need_sizes (hr.mono (by omega)) (dacons (dvar 0) danil))))
  (gdcons (gfor hp rfl (dirng1 rfl B.range (dacons (dcallD tk hG c_settings_many (hr.mono (by omega)) (dacons (dvar 0) danil)) danil)) (dgN 1 nd) (tgN 1) (gdcons (gyield (dcallD tk hG c_setting_from (hr.mono (by omega)) (dacons (dvar 0) (dacons (dvar 1) danil))))
  gdnil))
  gdnil))
abbrev s_place_in : Stmt := top 26
theorem sc_place_in : FnScope [("sizes" : Str), ("setting" : Str), ("place" : Str), ("size" : Str), ("choice" : Str)] [("sizes" : Str), ("setting" : Str)] (defScope s_place_in) := ⟨rfl, rfl, rfl, by decide +kernel, rfl, by decide +kernel, by decide +kernel⟩
def p_place_in (C_NotUsable : Addr) : SFn Unit := (sSeq (sAsg 2 (fC (.int 0)))
  (sSeq (sFor (iZipF (aCons (fVar 0) (aCons (fVar 1) aNil))) (asgT 2 (asgCons (asgN 3) (asgCons (asgN 4) asgNil))) (sAsg 2 (fOp oAdd (fOp oMul (fVar 2) (fVar 3)) (fVar 4))))
  (sRetV 2)))
def v_place_in (C_NotUsable : Addr) : List PyData → Out Unit := runP [("sizes" : Str), ("setting" : Str), ("place" : Str), ("size" : Str), ("choice" : Str)] (p_place_in C_NotUsable)
theorem f_place_in (B : Bk mg) (e_NotUsable : Ex2 P w K mg base "NotUsable" C_NotUsable "word" "at") {f : Addr} {fd : FuncData} (F : Fun K "place_in" "place_in" s_place_in f fd) : FnG gd P w K mg base 1 f fd [("sizes" : Str), ("setting" : Str)] (spP K 2 (v_place_in C_NotUsable)) := fnP F sc_place_in fun cdv A outer s H D E hr tk hp hG => by
  have nd := sc_place_in.nd
  exact (dscons (dset 2 nd dint)
  (dscons (dfor hp rfl (dizip rfl B.zip (dacons (dvar 0) (dacons (dvar 1) danil))) (pg_tup (n := 2) rfl (pgs_cons (dgN 3 nd) (pgs_cons (dgN 4 nd) pgs_nil))) (tgT (tgsCons (tgN 3) (tgsCons (tgN 4) tgsNil))) (dsone (dset 2 nd (dop op_addAll kAdd (dop op_mulW kMul (dvar 2) (dvar 3)) (dvar 4)))))
  (dsone (dretv 2 (pv 2)))))
abbrev s_place_of : Stmt := top 21
theorem sc_place_of : FnScope [("sizes" : Str), ("setting" : Str)] [("sizes" : Str), ("setting" : Str)] (defScope s_place_of) := ⟨rfl, rfl, rfl, by decide +kernel, rfl, by decide +kernel, by decide +kernel⟩
def p_place_of (C_NotUsable : Addr) : SFn Unit := (sSeq (sDrop (fCall 1 (v_need_sizes C_NotUsable) (aCons (fVar 0) aNil)))
  (sSeq (sDrop (fCall 2 (v_need_setting C_NotUsable) (aCons (fVar 0) (aCons (fVar 1) aNil))))
  (sRet (fCall 2 (v_place_in C_NotUsable) (aCons (fVar 0) (aCons (fVar 1) aNil))))))
def v_place_of (C_NotUsable : Addr) : List PyData → Out Unit := runP [("sizes" : Str), ("setting" : Str)] (p_place_of C_NotUsable)
theorem f_place_of (B : Bk mg) (e_NotUsable : Ex2 P w K mg base "NotUsable" C_NotUsable "word" "at") (c_need_setting : Dfn gd P w K mg base 5 "need_setting" 2 (v_need_setting C_NotUsable)) (c_need_sizes : Dfn gd P w K mg base 4 "need_sizes" 1 (v_need_sizes C_NotUsable)) (c_place_in : Dfn gd P w K mg base 1 "place_in" 2 (v_place_in C_NotUsable)) {f : Addr} {fd : FuncData} (F : Fun K "place_of" "place_of" s_place_of f fd) : FnG gd P w K mg base 6 f fd [("sizes" : Str), ("setting" : Str)] (spP K 2 (v_place_of C_NotUsable)) := fnP F sc_place_of fun cdv A outer s H D E hr tk hp hG => by
  have nd := sc_place_of.nd
  exact (dscons (dexpr (dcallD tk hG c_need_sizes (hr.mono (by omega)) (dacons (dvar 0) danil)))
  (dscons (dexpr (dcallD tk hG c_need_setting (hr.mono (by omega)) (dacons (dvar 0) (dacons (dvar 1) danil))))
  (dsone (dret (dcallD tk hG c_place_in (hr.mono (by omega)) (dacons (dvar 0) (dacons (dvar 1) danil)))))))
abbrev s_setting_at : Stmt := top 22
theorem sc_setting_at : FnScope [("sizes" : Str), ("place" : Str)] [("sizes" : Str), ("place" : Str)] (defScope s_setting_at) := ⟨rfl, rfl, rfl, by decide +kernel, rfl, by decide +kernel, by decide +kernel⟩
def p_setting_at (C_NotUsable : Addr) : SFn Unit := (sSeq (sDrop (fCall 1 (v_need_sizes C_NotUsable) (aCons (fVar 0) aNil)))
  (sSeq (sDrop (fCall 2 (v_need C_NotUsable) (aCons (fCall 2 (v_is_index C_NotUsable) (aCons (fCall 1 (v_settings_many C_NotUsable) (aCons (fVar 0) aNil)) (aCons (fVar 1) aNil))) (aCons (fC (.str "place")) aNil))))
  (sRet (fCall 2 (v_setting_from C_NotUsable) (aCons (fVar 0) (aCons (fVar 1) aNil))))))
def v_setting_at (C_NotUsable : Addr) : List PyData → Out Unit := runP [("sizes" : Str), ("place" : Str)] (p_setting_at C_NotUsable)
theorem f_setting_at (B : Bk mg) (e_NotUsable : Ex2 P w K mg base "NotUsable" C_NotUsable "word" "at") (c_is_index : Dfn gd P w K mg base 3 "is_index" 2 (v_is_index C_NotUsable)) (c_need : Dfn gd P w K mg base 3 "need" 2 (v_need C_NotUsable)) (c_need_sizes : Dfn gd P w K mg base 4 "need_sizes" 1 (v_need_sizes C_NotUsable)) (c_setting_from : Dfn gd P w K mg base 1 "setting_from" 2 (v_setting_from C_NotUsable)) (c_settings_many : Dfn gd P w K mg base 1 "settings_many" 1 (v_settings_many C_NotUsable)) {f : Addr} {fd : FuncData} (F : Fun K "setting_at" "setting_at" s_setting_at f fd) : FnG gd P w K mg base 5 f fd [("sizes" : Str), ("place" : Str)] (spP K 2 (v_setting_at C_NotUsable)) := fnP F sc_setting_at fun cdv A outer s H D E hr tk hp hG => by
  have nd := sc_setting_at.nd
  exact (dscons (dexpr (dcallD tk hG c_need_sizes (hr.mono (by omega)) (dacons (dvar 0) danil)))
  (dscons (dexpr (dcallD tk hG c_need (hr.mono (by omega)) (dacons (dcallD tk hG c_is_index (hr.mono (by omega)) (dacons (dcallD tk hG c_settings_many (hr.mono (by omega)) (dacons (dvar 0) danil)) (dacons (dvar 1) danil))) (dacons dstr danil))))
  (dsone (dret (dcallD tk hG c_setting_from (hr.mono (by omega)) (dacons (dvar 0) (dacons (dvar 1) danil)))))))
abbrev s_values_on : Stmt := top 28
theorem sc_values_on : FnScope [("values" : Str), ("lot" : Str), ("house" : Str)] [("values" : Str), ("lot" : Str)] (defScope s_values_on) := ⟨rfl, rfl, rfl, by decide +kernel, rfl, by decide +kernel, by decide +kernel⟩
def p_values_on (C_NotUsable : Addr) : SFn Unit := (sRet (fCB bTuple (aCons (fLc [2] (iAny (fVar 1)) (asgN 2) fYes (fOp oIx (fVar 0) (fVar 2))) aNil)))
def v_values_on (C_NotUsable : Addr) : List PyData → Out Unit := runP [("values" : Str), ("lot" : Str), ("house" : Str)] (p_values_on C_NotUsable)
theorem f_values_on (B : Bk mg) (e_NotUsable : Ex2 P w K mg base "NotUsable" C_NotUsable "word" "at") {f : Addr} {fd : FuncData} (F : Fun K "values_on" "values_on" s_values_on f fd) : FnG gd P w K mg base 1 f fd [("values" : Str), ("lot" : Str)] (spP K 2 (v_values_on C_NotUsable)) := fnP F sc_values_on fun cdv A outer s H D E hr tk hp hG => by
  have nd := sc_values_on.nd
  exact (dsone (dret (dct call_tuple_of kTuple B.tuple (by decide +kernel) (dacons (dlc0 (own := [("house", 2)]) rfl nd (diany (dvar 1)) (blkOk_by (by rfl)) (fun _ _ _ _ _ => (dgN 2 nd)) (tgN 2) (towN (by decide)) (fun _ _ _ _ _ => (dix ix_seq kIx (dvar 0) (dvar 2)))) danil))))
abbrev s_choices_on : Stmt := top 23
theorem sc_choices_on : FnScope [("sizes" : Str), ("setting" : Str), ("lot" : Str)] [("sizes" : Str), ("setting" : Str), ("lot" : Str)] (defScope s_choices_on) := ⟨rfl, rfl, rfl, by decide +kernel, rfl, by decide +kernel, by decide +kernel⟩
def p_choices_on (C_NotUsable : Addr) : SFn Unit := (sSeq (sDrop (fCall 1 (v_need_sizes C_NotUsable) (aCons (fVar 0) aNil)))
  (sSeq (sDrop (fCall 2 (v_need_setting C_NotUsable) (aCons (fVar 0) (aCons (fVar 1) aNil))))
  (sSeq (sDrop (fCall 2 (v_need_lot C_NotUsable) (aCons (fCB bLen (aCons (fVar 0) aNil)) (aCons (fVar 2) aNil))))
  (sRet (fCall 2 (v_values_on C_NotUsable) (aCons (fVar 1) (aCons (fVar 2) aNil)))))))
def v_choices_on (C_NotUsable : Addr) : List PyData → Out Unit := runP [("sizes" : Str), ("setting" : Str), ("lot" : Str)] (p_choices_on C_NotUsable)
theorem f_choices_on (B : Bk mg) (e_NotUsable : Ex2 P w K mg base "NotUsable" C_NotUsable "word" "at") (c_need_lot : Dfn gd P w K mg base 5 "need_lot" 2 (v_need_lot C_NotUsable)) (c_need_setting : Dfn gd P w K mg base 5 "need_setting" 2 (v_need_setting C_NotUsable)) (c_need_sizes : Dfn gd P w K mg base 4 "need_sizes" 1 (v_need_sizes C_NotUsable)) (c_values_on : Dfn gd P w K mg base 1 "values_on" 2 (v_values_on C_NotUsable)) {f : Addr} {fd : FuncData} (F : Fun K "choices_on" "choices_on" s_choices_on f fd) : FnG gd P w K mg base 6 f fd [("sizes" : Str), ("setting" : Str), ("lot" : Str)] (spP K 3 (v_choices_on C_NotUsable)) := fnP F sc_choices_on fun cdv A outer s H D E hr tk hp hG => by
  have nd := sc_choices_on.nd
  exact (dscons (dexpr (dcallD tk hG c_need_sizes (hr.mono (by omega)) (dacons (dvar 0) danil)))
  (dscons (dexpr (dcallD tk hG c_need_setting (hr.mono (by omega)) (dacons (dvar 0) (dacons (dvar 1) danil))))
  (dscons (dexpr (dcallD tk hG c_need_lot (hr.mono (by omega)) (dacons (dcb call_len kLen B.len (by decide +kernel) (dacons (dvar 0) danil)) (dacons (dvar 2) danil))))
  (dsone (dret (dcallD tk hG c_values_on (hr.mono (by omega)) (dacons (dvar 1) (dacons (dvar 2) danil))))))))
abbrev s_put_on : Stmt := top 24
theorem sc_put_on : FnScope [("sizes" : Str), ("setting" : Str), ("lot" : Str), ("choices" : Str), ("changed" : Str), ("house" : Str), ("choice" : Str)] [("sizes" : Str), ("setting" : Str), ("lot" : Str), ("choices" : Str)] (defScope s_put_on) := ⟨rfl, rfl, rfl, by decide +kernel, rfl, by decide +kernel, by decide +kernel⟩
def p_put_on (C_NotUsable : Addr) : SFn Unit := (sSeq (sDrop (fCall 1 (v_need_sizes C_NotUsable) (aCons (fVar 0) aNil)))
  (sSeq (sDrop (fCall 2 (v_need_setting C_NotUsable) (aCons (fVar 0) (aCons (fVar 1) aNil))))
  (sSeq (sDrop (fCall 2 (v_need_lot C_NotUsable) (aCons (fCB bLen (aCons (fVar 0) aNil)) (aCons (fVar 2) aNil))))
  (sSeq (sDrop (fCall 2 (v_need C_NotUsable) (aCons (fCall 2 (v_right_setting C_NotUsable) (aCons (fCall 2 (v_values_on C_NotUsable) (aCons (fVar 0) (aCons (fVar 2) aNil))) (aCons (fVar 3) aNil))) (aCons (fC (.str "choices")) aNil))))
  (sSeq (sAsg 4 (fCB bList (aCons (fVar 1) aNil)))
  (sSeq (sFor (iZipF (aCons (fVar 2) (aCons (fVar 3) aNil))) (asgT 2 (asgCons (asgN 5) (asgCons (asgN 6) asgNil))) (sSetI 4 (fVar 5) (fVar 6)))
  (sRet (fCB bTuple (aCons (fVar 4) aNil)))))))))
def v_put_on (C_NotUsable : Addr) : List PyData → Out Unit := runP [("sizes" : Str), ("setting" : Str), ("lot" : Str), ("choices" : Str), ("changed" : Str), ("house" : Str), ("choice" : Str)] (p_put_on C_NotUsable)
theorem f_put_on (B : Bk mg) (e_NotUsable : Ex2 P w K mg base "NotUsable" C_NotUsable "word" "at") (c_need : Dfn gd P w K mg base 3 "need" 2 (v_need C_NotUsable)) (c_need_lot : Dfn gd P w K mg base 5 "need_lot" 2 (v_need_lot C_NotUsable)) (c_need_setting : Dfn gd P w K mg base 5 "need_setting" 2 (v_need_setting C_NotUsable)) (c_need_sizes : Dfn gd P w K mg base 4 "need_sizes" 1 (v_need_sizes C_NotUsable)) (c_right_setting : Dfn gd P w K mg base 4 "right_setting" 2 (v_right_setting C_NotUsable)) (c_values_on : Dfn gd P w K mg base 1 "values_on" 2 (v_values_on C_NotUsable)) {f : Addr} {fd : FuncData} (F : Fun K "put_on" "put_on" s_put_on f fd) : FnG gd P w K mg base 6 f fd [("sizes" : Str), ("setting" : Str), ("lot" : Str), ("choices" : Str)] (spP K 4 (v_put_on C_NotUsable)) := fnP F sc_put_on fun cdv A outer s H D E hr tk hp hG => by
  have nd := sc_put_on.nd
  exact (dscons (dexpr (dcallD tk hG c_need_sizes (hr.mono (by omega)) (dacons (dvar 0) danil)))
  (dscons (dexpr (dcallD tk hG c_need_setting (hr.mono (by omega)) (dacons (dvar 0) (dacons (dvar 1) danil))))
  (dscons (dexpr (dcallD tk hG c_need_lot (hr.mono (by omega)) (dacons (dcb call_len kLen B.len (by decide +kernel) (dacons (dvar 0) danil)) (dacons (dvar 2) danil))))
  (dscons (dexpr (dcallD tk hG c_need (hr.mono (by omega)) (dacons (dcallD tk hG c_right_setting (hr.mono (by omega)) (dacons (dcallD tk hG c_values_on (hr.mono (by omega)) (dacons (dvar 0) (dacons (dvar 2) danil))) (dacons (dvar 3) danil))) (dacons dstr danil))))
  (dscons (dset 4 nd (dct call_list_of kList B.list (by decide +kernel) (dacons (dvar 1) danil)))
  (dscons (dfor hp rfl (dizip rfl B.zip (dacons (dvar 2) (dacons (dvar 3) danil))) (pg_tup (n := 2) rfl (pgs_cons (dgN 5 nd) (pgs_cons (dgN 6 nd) pgs_nil))) (tgT (tgsCons (tgN 5) (tgsCons (tgN 6) tgsNil))) (dsone (dseti 4 (pv 4) (dvar 5) (dvar 6))))
  (dsone (dret (dct call_tuple_of kTuple B.tuple (by decide +kernel) (dacons (dvar 4) danil))))))))))
abbrev s_is_quotient : Stmt := top 30
theorem sc_is_quotient : FnScope [("thing" : Str)] [("thing" : Str)] (defScope s_is_quotient) := ⟨rfl, rfl, rfl, by decide +kernel, rfl, by decide +kernel, by decide +kernel⟩
def p_is_quotient (C_NotUsable : Addr) : SFn Unit := (sSeq (sIf (fOr (fNot (fIsi "tuple" (fVar 0))) (fOp oNeS (fCB bLen (aCons (fVar 0) aNil)) (fC (.int 2)))) (sRet (fC (.bool false))) sNil)
  (sRet (fAnd (fCall 1 (v_is_integer C_NotUsable) (aCons (fOp oIx (fVar 0) (fC (.int 0))) aNil)) (fAnd (fCall 1 (v_is_many C_NotUsable) (aCons (fOp oIx (fVar 0) (fC (.int 1))) aNil)) (fOp oEqS (fCB bGcd (aCons (fOp oIx (fVar 0) (fC (.int 0))) (aCons (fOp oIx (fVar 0) (fC (.int 1))) aNil))) (fC (.int 1)))))))
def v_is_quotient (C_NotUsable : Addr) : List PyData → Out Unit := runP [("thing" : Str)] (p_is_quotient C_NotUsable)
theorem f_is_quotient (B : Bk mg) (e_NotUsable : Ex2 P w K mg base "NotUsable" C_NotUsable "word" "at") (c_is_integer : Dfn gd P w K mg base 1 "is_integer" 1 (v_is_integer C_NotUsable)) (c_is_many : Dfn gd P w K mg base 2 "is_many" 1 (v_is_many C_NotUsable)) {f : Addr} {fd : FuncData} (F : Fun K "is_quotient" "is_quotient" s_is_quotient f fd) : FnG gd P w K mg base 3 f fd [("thing" : Str)] (spP K 1 (v_is_quotient C_NotUsable)) := fnP F sc_is_quotient fun cdv A outer s H D E hr tk hp hG => by
  have nd := sc_is_quotient.nd
  exact (dscons (dif_ (dtw (dwor (dtnot (dtval (disi (dvar 0) B.isinstance B.tuple (by decide +kernel)))) (dwor1 (dtcmp (op_neS (hu64 hr)) kNeS (dcb call_len kLen B.len (by decide +kernel) (dacons (dvar 0) danil)) dint)))) (dsone (dret dbl)) dsnil)
  (dsone (dret (dand (dcallD tk hG c_is_integer (hr.mono (by omega)) (dacons (dix ix_seq kIx (dvar 0) dint) danil)) (dand (dcallD tk hG c_is_many (hr.mono (by omega)) (dacons (dix ix_seq kIx (dvar 0) dint) danil)) (done1 (dcmp (op_eqS (hu64 hr)) kEqS (dcbg cr_gcd kGcd B.gcd (dacons (dix ix_seq kIx (dvar 0) dint) (dacons (dix ix_seq kIx (dvar 0) dint) danil))) dint)))))))
abbrev s_reduced : Stmt := top 35
theorem sc_reduced : FnScope [("top" : Str), ("bottom" : Str), ("divisor" : Str)] [("top" : Str), ("bottom" : Str)] (defScope s_reduced) := ⟨rfl, rfl, rfl, by decide +kernel, rfl, by decide +kernel, by decide +kernel⟩
def p_reduced (C_NotUsable : Addr) : SFn Unit := (sSeq (sAsg 2 (fCB bGcd (aCons (fVar 0) (aCons (fVar 1) aNil))))
  (sSeq (sIf (fOp oLt (fVar 1) (fC (.int 0))) (sAsg 2 (fUn oNeg (fVar 2))) sNil)
  (sRet (fTup (aCons (fOp oDiv (fVar 0) (fVar 2)) (aCons (fOp oDiv (fVar 1) (fVar 2)) aNil))))))
def v_reduced (C_NotUsable : Addr) : List PyData → Out Unit := runP [("top" : Str), ("bottom" : Str), ("divisor" : Str)] (p_reduced C_NotUsable)
theorem f_reduced (B : Bk mg) (e_NotUsable : Ex2 P w K mg base "NotUsable" C_NotUsable "word" "at") {f : Addr} {fd : FuncData} (F : Fun K "reduced" "reduced" s_reduced f fd) : FnG gd P w K mg base 1 f fd [("top" : Str), ("bottom" : Str)] (spP K 2 (v_reduced C_NotUsable)) := fnP F sc_reduced fun cdv A outer s H D E hr tk hp hG => by
  have nd := sc_reduced.nd
  exact (dscons (dset 2 nd (dcbg cr_gcd kGcd B.gcd (dacons (dvar 0) (dacons (dvar 1) danil))))
  (dscons (dif_ (dtcmp op_lt kLt (dvar 1) dint) (dsone (dset 2 nd (dun un_neg kNeg (dvar 2)))) dsnil)
  (dsone (dret (dtup (dacons (dop op_fdivA kDiv (dvar 0) (dvar 2)) (dacons (dop op_fdivA kDiv (dvar 1) (dvar 2)) danil)))))))
abbrev s_quotient_of : Stmt := top 31
theorem sc_quotient_of : FnScope [("top" : Str), ("bottom" : Str)] [("top" : Str), ("bottom" : Str)] (defScope s_quotient_of) := ⟨rfl, rfl, rfl, by decide +kernel, rfl, by decide +kernel, by decide +kernel⟩
def p_quotient_of (C_NotUsable : Addr) : SFn Unit := (sSeq (sDrop (fCall 2 (v_need C_NotUsable) (aCons (fCall 1 (v_is_integer C_NotUsable) (aCons (fVar 0) aNil)) (aCons (fC (.str "top")) aNil))))
  (sSeq (sDrop (fCall 2 (v_need C_NotUsable) (aCons (fAnd (fCall 1 (v_is_integer C_NotUsable) (aCons (fVar 1) aNil)) (fOp oNeS (fVar 1) (fC (.int 0)))) (aCons (fC (.str "bottom")) aNil))))
  (sRet (fCall 2 (v_reduced C_NotUsable) (aCons (fVar 0) (aCons (fVar 1) aNil))))))
def v_quotient_of (C_NotUsable : Addr) : List PyData → Out Unit := runP [("top" : Str), ("bottom" : Str)] (p_quotient_of C_NotUsable)
theorem f_quotient_of (B : Bk mg) (e_NotUsable : Ex2 P w K mg base "NotUsable" C_NotUsable "word" "at") (c_is_integer : Dfn gd P w K mg base 1 "is_integer" 1 (v_is_integer C_NotUsable)) (c_need : Dfn gd P w K mg base 3 "need" 2 (v_need C_NotUsable)) (c_reduced : Dfn gd P w K mg base 1 "reduced" 2 (v_reduced C_NotUsable)) {f : Addr} {fd : FuncData} (F : Fun K "quotient_of" "quotient_of" s_quotient_of f fd) : FnG gd P w K mg base 4 f fd [("top" : Str), ("bottom" : Str)] (spP K 2 (v_quotient_of C_NotUsable)) := fnP F sc_quotient_of fun cdv A outer s H D E hr tk hp hG => by
  have nd := sc_quotient_of.nd
  exact (dscons (dexpr (dcallD tk hG c_need (hr.mono (by omega)) (dacons (dcallD tk hG c_is_integer (hr.mono (by omega)) (dacons (dvar 0) danil)) (dacons dstr danil))))
  (dscons (dexpr (dcallD tk hG c_need (hr.mono (by omega)) (dacons (dand (dcallD tk hG c_is_integer (hr.mono (by omega)) (dacons (dvar 1) danil)) (done1 (dcmp (op_neS (hu64 hr)) kNeS (dvar 1) dint))) (dacons dstr danil))))
  (dsone (dret (dcallD tk hG c_reduced (hr.mono (by omega)) (dacons (dvar 0) (dacons (dvar 1) danil)))))))
abbrev s_need_quotients : Stmt := top 34
theorem sc_need_quotients : FnScope [("one" : Str), ("other" : Str)] [("one" : Str), ("other" : Str)] (defScope s_need_quotients) := ⟨rfl, rfl, rfl, by decide +kernel, rfl, by decide +kernel, by decide +kernel⟩
def p_need_quotients (C_NotUsable : Addr) : SFn Unit := (sSeq (sDrop (fCall 2 (v_need C_NotUsable) (aCons (fCall 1 (v_is_quotient C_NotUsable) (aCons (fVar 0) aNil)) (aCons (fC (.str "one")) aNil))))
  (sDrop (fCall 2 (v_need C_NotUsable) (aCons (fCall 1 (v_is_quotient C_NotUsable) (aCons (fVar 1) aNil)) (aCons (fC (.str "other")) aNil)))))
def v_need_quotients (C_NotUsable : Addr) : List PyData → Out Unit := runP [("one" : Str), ("other" : Str)] (p_need_quotients C_NotUsable)
theorem f_need_quotients (B : Bk mg) (e_NotUsable : Ex2 P w K mg base "NotUsable" C_NotUsable "word" "at") (c_is_quotient : Dfn gd P w K mg base 3 "is_quotient" 1 (v_is_quotient C_NotUsable)) (c_need : Dfn gd P w K mg base 3 "need" 2 (v_need C_NotUsable)) {f : Addr} {fd : FuncData} (F : Fun K "need_quotients" "need_quotients" s_need_quotients f fd) : FnG gd P w K mg base 4 f fd [("one" : Str), ("other" : Str)] (spP K 2 (v_need_quotients C_NotUsable)) := fnP F sc_need_quotients fun cdv A outer s H D E hr tk hp hG => by
  have nd := sc_need_quotients.nd
  exact (dscons (dexpr (dcallD tk hG c_need (hr.mono (by omega)) (dacons (dcallD tk hG c_is_quotient (hr.mono (by omega)) (dacons (dvar 0) danil)) (dacons dstr danil))))
  (dsone (dexpr (dcallD tk hG c_need (hr.mono (by omega)) (dacons (dcallD tk hG c_is_quotient (hr.mono (by omega)) (dacons (dvar 1) danil)) (dacons dstr danil))))))
abbrev s_plus : Stmt := top 32
theorem sc_plus : FnScope [("one" : Str), ("other" : Str)] [("one" : Str), ("other" : Str)] (defScope s_plus) := ⟨rfl, rfl, rfl, by decide +kernel, rfl, by decide +kernel, by decide +kernel⟩
def p_plus (C_NotUsable : Addr) : SFn Unit := (sSeq (sDrop (fCall 2 (v_need_quotients C_NotUsable) (aCons (fVar 0) (aCons (fVar 1) aNil))))
  (sRet (fCall 2 (v_reduced C_NotUsable) (aCons (fOp oAdd (fOp oMul (fOp oIx (fVar 0) (fC (.int 0))) (fOp oIx (fVar 1) (fC (.int 1)))) (fOp oMul (fOp oIx (fVar 1) (fC (.int 0))) (fOp oIx (fVar 0) (fC (.int 1))))) (aCons (fOp oMul (fOp oIx (fVar 0) (fC (.int 1))) (fOp oIx (fVar 1) (fC (.int 1)))) aNil)))))
def v_plus (C_NotUsable : Addr) : List PyData → Out Unit := runP [("one" : Str), ("other" : Str)] (p_plus C_NotUsable)
theorem f_plus (B : Bk mg) (e_NotUsable : Ex2 P w K mg base "NotUsable" C_NotUsable "word" "at") (c_need_quotients : Dfn gd P w K mg base 4 "need_quotients" 2 (v_need_quotients C_NotUsable)) (c_reduced : Dfn gd P w K mg base 1 "reduced" 2 (v_reduced C_NotUsable)) {f : Addr} {fd : FuncData} (F : Fun K "plus" "plus" s_plus f fd) : FnG gd P w K mg base 5 f fd [("one" : Str), ("other" : Str)] (spP K 2 (v_plus C_NotUsable)) := fnP F sc_plus fun cdv A outer s H D E hr tk hp hG => by
  have nd := sc_plus.nd
  exact (dscons (dexpr (dcallD tk hG c_need_quotients (hr.mono (by omega)) (dacons (dvar 0) (dacons (dvar 1) danil))))
  (dsone (dret (dcallD tk hG c_reduced (hr.mono (by omega)) (dacons (dop op_addAll kAdd (dop op_mulW kMul (dix ix_seq kIx (dvar 0) dint) (dix ix_seq kIx (dvar 1) dint)) (dop op_mulW kMul (dix ix_seq kIx (dvar 1) dint) (dix ix_seq kIx (dvar 0) dint))) (dacons (dop op_mulW kMul (dix ix_seq kIx (dvar 0) dint) (dix ix_seq kIx (dvar 1) dint)) danil))))))
abbrev s_times : Stmt := top 33
theorem sc_times : FnScope [("one" : Str), ("other" : Str)] [("one" : Str), ("other" : Str)] (defScope s_times) := ⟨rfl, rfl, rfl, by decide +kernel, rfl, by decide +kernel, by decide +kernel⟩
def p_times (C_NotUsable : Addr) : SFn Unit := (sSeq (sDrop (fCall 2 (v_need_quotients C_NotUsable) (aCons (fVar 0) (aCons (fVar 1) aNil))))
  (sRet (fCall 2 (v_reduced C_NotUsable) (aCons (fOp oMul (fOp oIx (fVar 0) (fC (.int 0))) (fOp oIx (fVar 1) (fC (.int 0)))) (aCons (fOp oMul (fOp oIx (fVar 0) (fC (.int 1))) (fOp oIx (fVar 1) (fC (.int 1)))) aNil)))))
def v_times (C_NotUsable : Addr) : List PyData → Out Unit := runP [("one" : Str), ("other" : Str)] (p_times C_NotUsable)
theorem f_times (B : Bk mg) (e_NotUsable : Ex2 P w K mg base "NotUsable" C_NotUsable "word" "at") (c_need_quotients : Dfn gd P w K mg base 4 "need_quotients" 2 (v_need_quotients C_NotUsable)) (c_reduced : Dfn gd P w K mg base 1 "reduced" 2 (v_reduced C_NotUsable)) {f : Addr} {fd : FuncData} (F : Fun K "times" "times" s_times f fd) : FnG gd P w K mg base 5 f fd [("one" : Str), ("other" : Str)] (spP K 2 (v_times C_NotUsable)) := fnP F sc_times fun cdv A outer s H D E hr tk hp hG => by
  have nd := sc_times.nd
  exact (dscons (dexpr (dcallD tk hG c_need_quotients (hr.mono (by omega)) (dacons (dvar 0) (dacons (dvar 1) danil))))
  (dsone (dret (dcallD tk hG c_reduced (hr.mono (by omega)) (dacons (dop op_mulW kMul (dix ix_seq kIx (dvar 0) dint) (dix ix_seq kIx (dvar 1) dint)) (dacons (dop op_mulW kMul (dix ix_seq kIx (dvar 0) dint) (dix ix_seq kIx (dvar 1) dint)) danil))))))
abbrev s__law_number : Stmt := top 38
theorem sc__law_number : FnScope [("_law_source" : Str), ("_law_laps" : Str), ("_law_number_here" : Str), ("_law_k" : Str)] [("_law_source" : Str), ("_law_laps" : Str)] (defScope s__law_number) := ⟨rfl, rfl, rfl, by decide +kernel, rfl, by decide +kernel, by decide +kernel⟩
def p__law_number (C_NotUsable : Addr) : SFn SrcG := (sSeq (sAsg 2 (fC (.int 0)))
  (sSeq (sFor (iRng1F (aCons (fVar 1) aNil)) (asgN 3) (sAsg 2 (fOp oAdd (fOp oMul (fVar 2) (fC (.int 1000))) (fCallS 2 (v__law_draw C_NotUsable) (aCons (fVar 0) (aCons (fC (.int 1000)) aNil))))))
  (sRetV 2)))
def v__law_number (C_NotUsable : Addr) : List SV → SrcG → Out SrcG := runS [("_law_source" : Str), ("_law_laps" : Str), ("_law_number_here" : Str), ("_law_k" : Str)] (p__law_number C_NotUsable)
theorem f__law_number (B : Bk mg) (e_NotUsable : Ex2 P w K mg base "NotUsable" C_NotUsable "word" "at") (c__law_draw : DfnS gd P w K mg base Fm 1 "_law_draw" 2 (v__law_draw C_NotUsable)) {f : Addr} {fd : FuncData} (F : Fun K "_law_number" "_law_number" s__law_number f fd) : FnG gd P w K mg base 2 f fd [("_law_source" : Str), ("_law_laps" : Str)] (spS Fm K 2 (v__law_number C_NotUsable)) := fnS F sc__law_number fun cdv A outer s H D E i hr tk hp hG => by
  have nd := sc__law_number.nd
  have hI : Fm i = Fm i := rfl
  exact (dscons (dset 2 nd dint)
  (dscons (dfor hp rfl (dirng1 rfl B.range (dacons (dvar 1) danil)) (dgN 3 nd) (tgN 3) (dsone (dset 2 nd (dop op_addAll kAdd (dop op_mulW kMul (dvar 2) dint) (dcallDS hI tk hG c__law_draw (hr.mono (by omega)) (dacons (dvar 0) (dacons dint danil)))))))
  (dsone (dretv 2 (pv 2)))))
abbrev s__law_sizes : Stmt := top 39
theorem sc__law_sizes : FnScope [("_law_source" : Str), ("_law_n" : Str), ("_law_sizes_here" : Str), ("_law_room" : Str), ("_law_k" : Str), ("_law_size" : Str)] [("_law_source" : Str)] (defScope s__law_sizes) := ⟨rfl, rfl, rfl, by decide +kernel, rfl, by decide +kernel, by decide +kernel⟩
def p__law_sizes (C_NotUsable : Addr) : SFn SrcG := (sSeq (sAsg 1 (fOp oIx (fLst (aCons (fC (.int 4)) (aCons (fC (.int 3)) (aCons (fC (.int 6)) (aCons (fC (.int 2)) (aCons (fC (.int 5)) (aCons (fC (.int 1)) (aCons (fC (.int 3)) (aCons (fC (.int 4)) aNil))))))))) (fCallS 2 (v__law_draw C_NotUsable) (aCons (fVar 0) (aCons (fC (.int 8)) aNil)))))
  (sSeq (sAsg 2 (fLst aNil))
  (sSeq (sAsg 3 (fC (.int 64)))
  (sSeq (sFor (iRng1F (aCons (fVar 1) aNil)) (asgN 4) (sSeq (sAsg 5 (fOp oIx (fLst (aCons (fC (.int 2)) (aCons (fC (.int 3)) (aCons (fC (.int 1)) (aCons (fC (.int 4)) (aCons (fC (.int 2)) aNil)))))) (fCallS 2 (v__law_draw C_NotUsable) (aCons (fVar 0) (aCons (fC (.int 5)) aNil)))))
  (sSeq (sIf (fOp oGt (fVar 5) (fVar 3)) (sAsg 5 (fC (.int 1))) sNil)
  (sSeq (sAsg 3 (fOp oDiv (fVar 3) (fVar 5)))
  (sApp 2 (fVar 5))))))
  (sRet (fCB bTuple (aCons (fVar 2) aNil)))))))
def v__law_sizes (C_NotUsable : Addr) : List SV → SrcG → Out SrcG := runS [("_law_source" : Str), ("_law_n" : Str), ("_law_sizes_here" : Str), ("_law_room" : Str), ("_law_k" : Str), ("_law_size" : Str)] (p__law_sizes C_NotUsable)
theorem f__law_sizes (B : Bk mg) (e_NotUsable : Ex2 P w K mg base "NotUsable" C_NotUsable "word" "at") (c__law_draw : DfnS gd P w K mg base Fm 1 "_law_draw" 2 (v__law_draw C_NotUsable)) {f : Addr} {fd : FuncData} (F : Fun K "_law_sizes" "_law_sizes" s__law_sizes f fd) : FnG gd P w K mg base 2 f fd [("_law_source" : Str)] (spS Fm K 1 (v__law_sizes C_NotUsable)) := fnS F sc__law_sizes fun cdv A outer s H D E i hr tk hp hG => by
  have nd := sc__law_sizes.nd
  have hI : Fm i = Fm i := rfl
  exact (dscons (dset 1 nd (dix ix_seq kIx (dlst (dacons dint (dacons dint (dacons dint (dacons dint (dacons dint (dacons dint (dacons dint (dacons dint danil))))))))) (dcallDS hI tk hG c__law_draw (hr.mono (by omega)) (dacons (dvar 0) (dacons dint danil)))))
  (dscons (dset 2 nd (dlst danil))
  (dscons (dset 3 nd dint)
  (dscons (dfor hp rfl (dirng1 rfl B.range (dacons (dvar 1) danil)) (dgN 4 nd) (tgN 4) (dscons (dset 5 nd (dix ix_seq kIx (dlst (dacons dint (dacons dint (dacons dint (dacons dint (dacons dint danil)))))) (dcallDS hI tk hG c__law_draw (hr.mono (by omega)) (dacons (dvar 0) (dacons dint danil)))))
  (dscons (dif_ (dtcmp op_gt kGt (dvar 5) (dvar 3)) (dsone (dset 5 nd dint)) dsnil)
  (dscons (dset 3 nd (dop op_fdivA kDiv (dvar 3) (dvar 5)))
  (dsone (dapp 2 (pv 2) (dvar 5)))))))
  (dsone (dret (dct call_tuple_of kTuple B.tuple (by decide +kernel) (dacons (dvar 2) danil))))))))
abbrev s__law_counted : Stmt := top 40
theorem sc__law_counted : FnScope [("_law_sizes_here" : Str), ("_law_place" : Str), ("_law_left" : Str), ("_law_row" : Str), ("_law_k" : Str), ("_law_size" : Str)] [("_law_sizes_here" : Str), ("_law_place" : Str)] (defScope s__law_counted) := ⟨rfl, rfl, rfl, by decide +kernel, rfl, by decide +kernel, by decide +kernel⟩
def p__law_counted (C_NotUsable : Addr) : SFn Unit := (sSeq (sAsg 2 (fVar 1))
  (sSeq (sAsg 3 (fLst aNil))
  (sSeq (sFor (iRng1F (aCons (fCB bLen (aCons (fVar 0) aNil)) aNil)) (asgN 4) (sSeq (sAsg 5 (fOp oIx (fVar 0) (fOp oSub (fOp oSub (fCB bLen (aCons (fVar 0) aNil)) (fC (.int 1))) (fVar 4))))
  (sSeq (sApp 3 (fOp oMod (fCB bInt (aCons (fVar 2) aNil)) (fVar 5)))
  (sAsg 2 (fOp oDiv (fVar 2) (fVar 5))))))
  (sSeq (sRevS 3)
  (sRet (fCB bTuple (aCons (fVar 3) aNil)))))))
def v__law_counted (C_NotUsable : Addr) : List PyData → Out Unit := runP [("_law_sizes_here" : Str), ("_law_place" : Str), ("_law_left" : Str), ("_law_row" : Str), ("_law_k" : Str), ("_law_size" : Str)] (p__law_counted C_NotUsable)
theorem f__law_counted (B : Bk mg) (e_NotUsable : Ex2 P w K mg base "NotUsable" C_NotUsable "word" "at") {f : Addr} {fd : FuncData} (F : Fun K "_law_counted" "_law_counted" s__law_counted f fd) : FnG gd P w K mg base 1 f fd [("_law_sizes_here" : Str), ("_law_place" : Str)] (spP K 2 (v__law_counted C_NotUsable)) := fnP F sc__law_counted fun cdv A outer s H D E hr tk hp hG => by
  have nd := sc__law_counted.nd
  exact (dscons (dset 2 nd (dvar 1))
  (dscons (dset 3 nd (dlst danil))
  (dscons (dfor hp rfl (dirng1 rfl B.range (dacons (dcb call_len kLen B.len (by decide +kernel) (dacons (dvar 0) danil)) danil)) (dgN 4 nd) (tgN 4) (dscons (dset 5 nd (dix ix_seq kIx (dvar 0) (dop op_sub kSub (dop op_sub kSub (dcb call_len kLen B.len (by decide +kernel) (dacons (dvar 0) danil)) dint) (dvar 4))))
  (dscons (dapp 3 (pv 3) (dop op_mod kMod (dct call_int1 kInt B.int (by decide +kernel) (dacons (dvar 2) danil)) (dvar 5)))
  (dsone (dset 2 nd (dop op_fdivA kDiv (dvar 2) (dvar 5)))))))
  (dscons (drevs 3 (pv 3))
  (dsone (dret (dct call_tuple_of kTuple B.tuple (by decide +kernel) (dacons (dvar 3) danil))))))))
abbrev s__law_lots : Stmt := top 41
theorem sc__law_lots : FnScope [("_law_n" : Str), ("_law_lots_here" : Str), ("_law_house" : Str), ("_law_each" : Str)] [("_law_n" : Str)] (defScope s__law_lots) := ⟨rfl, rfl, rfl, by decide +kernel, rfl, by decide +kernel, by decide +kernel⟩
def p__law_lots (C_NotUsable : Addr) : SFn Unit := (sSeq (sAsg 1 (fLst (aCons (fTup aNil) aNil)))
  (sSeq (sFor (iRng1F (aCons (fVar 0) aNil)) (asgN 2) (sFrz 1 (sAsg 1 (fOp oAddL (fVar 1) (fLc [3] (iAny (fVar 1)) (asgN 3) fYes (fOp oAdd (fVar 3) (fTup (aCons (fVar 2) aNil))))))))
  (sRetV 1)))
def v__law_lots (C_NotUsable : Addr) : List PyData → Out Unit := runP [("_law_n" : Str), ("_law_lots_here" : Str), ("_law_house" : Str), ("_law_each" : Str)] (p__law_lots C_NotUsable)
theorem f__law_lots (B : Bk mg) (e_NotUsable : Ex2 P w K mg base "NotUsable" C_NotUsable "word" "at") {f : Addr} {fd : FuncData} (F : Fun K "_law_lots" "_law_lots" s__law_lots f fd) : FnG gd P w K mg base 1 f fd [("_law_n" : Str)] (spP K 1 (v__law_lots C_NotUsable)) := fnP F sc__law_lots fun cdv A outer s H D E hr tk hp hG => by
  have nd := sc__law_lots.nd
  exact (dscons (dset 1 nd (dlst (dacons (dtup danil) danil)))
  (dscons (dfor hp rfl (dirng1 rfl B.range (dacons (dvar 0) danil)) (dgN 2 nd) (tgN 2) (dsfrz 1 (dsone (dset 1 nd (dop op_addL kAddL (dvar 1) (dlc0 (own := [("_law_each", 3)]) rfl nd (diany (dvar 1)) (blkOk_by (by rfl)) (fun _ _ _ _ _ => (dgN 3 nd)) (tgN 3) (towN (by decide)) (fun _ _ _ _ _ => (dop op_addAll kAdd (dvar 3) (dtup (dacons (dvar 2) danil))))))))))
  (dsone (dretv 1 (pv 1)))))
abbrev s__law_places_hold : Stmt := top 42
theorem sc__law_places_hold : FnScope [("_law_sizes_here" : Str), ("_law_all_of" : Str), ("_law_place" : Str)] [("_law_sizes_here" : Str), ("_law_all_of" : Str)] (defScope s__law_places_hold) := ⟨rfl, rfl, rfl, by decide +kernel, rfl, by decide +kernel, by decide +kernel⟩
def p__law_places_hold (C_NotUsable : Addr) : SFn Unit := (sSeq (sIf (fOp oNeS (fCB bRepr (aCons (fListG C_NotUsable 1 (v_settings_of C_NotUsable) (aCons (fVar 0) aNil)) aNil)) (fCB bRepr (aCons (fVar 1) aNil))) (sRet (fC (.bool false))) sNil)
  (sSeq (sFor (iRng1F (aCons (fCB bLen (aCons (fVar 1) aNil)) aNil)) (asgN 2) (sSeq (sIf (fOp oNeS (fCB bRepr (aCons (fCall 2 (v_place_of C_NotUsable) (aCons (fVar 0) (aCons (fOp oIx (fVar 1) (fVar 2)) aNil))) aNil)) (fCB bRepr (aCons (fVar 2) aNil))) (sRet (fC (.bool false))) sNil)
  (sIf (fOp oNeS (fCB bRepr (aCons (fCall 2 (v_setting_at C_NotUsable) (aCons (fVar 0) (aCons (fVar 2) aNil))) aNil)) (fCB bRepr (aCons (fOp oIx (fVar 1) (fVar 2)) aNil))) (sRet (fC (.bool false))) sNil)))
  (sRet (fOp oEqS (fCB bRepr (aCons (fListG C_NotUsable 1 (fun ds => v_settings_of C_NotUsable ds.reverse) (aCons (fVar 0) aNil)) aNil)) (fCB bRepr (aCons (fVar 1) aNil))))))
def v__law_places_hold (C_NotUsable : Addr) : List PyData → Out Unit := runP [("_law_sizes_here" : Str), ("_law_all_of" : Str), ("_law_place" : Str)] (p__law_places_hold C_NotUsable)
theorem f__law_places_hold (B : Bk mg) (e_NotUsable : Ex2 P w K mg base "NotUsable" C_NotUsable "word" "at") (eqt : Quiet K C_NotUsable) (c_place_of : Dfn True P w K mg base 6 "place_of" 2 (v_place_of C_NotUsable)) (c_setting_at : Dfn True P w K mg base 5 "setting_at" 2 (v_setting_at C_NotUsable)) (g_settings_of : GDfn P w K mg base 5 "settings_of" 1 (v_settings_of C_NotUsable)) (gk_settings_of : GDfnK P w K mg base 5 "settings_of" [("sizes" : Str)] 1 (v_settings_of C_NotUsable)) {f : Addr} {fd : FuncData} (F : Fun K "_law_places_hold" "_law_places_hold" s__law_places_hold f fd) : FnG True P w K mg base 9 f fd [("_law_sizes_here" : Str), ("_law_all_of" : Str)] (spP K 2 (v__law_places_hold C_NotUsable)) := fnP F sc__law_places_hold fun cdv A outer s H D E hr tk hp hG => by
  have nd := sc__law_places_hold.nd
  exact (dscons (dif_ (dtcmp (op_neS (hu64 hr)) kNeS (dcb (call_reprD (hG trivial) (by have := hr.un; omega)) kRepr B.repr (by decide +kernel) (dacons (dlistD tk g_settings_of eqt (hr.mono (by omega)) (dacons (dvar 0) danil) B.list (by decide +kernel)) danil)) (dcb (call_reprD (hG trivial) (by have := hr.un; omega)) kRepr B.repr (by decide +kernel) (dacons (dvar 1) danil))) (dsone (dret dbl)) dsnil)
  (dscons (dfor hp rfl (dirng1 rfl B.range (dacons (dcb call_len kLen B.len (by decide +kernel) (dacons (dvar 1) danil)) danil)) (dgN 2 nd) (tgN 2) (dscons (dif_ (dtcmp (op_neS (hu64 hr)) kNeS (dcb (call_reprD (hG trivial) (by have := hr.un; omega)) kRepr B.repr (by decide +kernel) (dacons (dcallD tk hG c_place_of (hr.mono (by omega)) (dacons (dvar 0) (dacons (dix ix_seq kIx (dvar 1) (dvar 2)) danil))) danil)) (dcb (call_reprD (hG trivial) (by have := hr.un; omega)) kRepr B.repr (by decide +kernel) (dacons (dvar 2) danil))) (dsone (dret dbl)) dsnil)
  (dsone (dif_ (dtcmp (op_neS (hu64 hr)) kNeS (dcb (call_reprD (hG trivial) (by have := hr.un; omega)) kRepr B.repr (by decide +kernel) (dacons (dcallD tk hG c_setting_at (hr.mono (by omega)) (dacons (dvar 0) (dacons (dvar 2) danil))) danil)) (dcb (call_reprD (hG trivial) (by have := hr.un; omega)) kRepr B.repr (by decide +kernel) (dacons (dix ix_seq kIx (dvar 1) (dvar 2)) danil))) (dsone (dret dbl)) dsnil))))
  (dsone (dret (dcmp (op_eqS (hu64 hr)) kEqS (dcb (call_reprD (hG trivial) (by have := hr.un; omega)) kRepr B.repr (by decide +kernel) (dacons (dlistDK tk gk_settings_of eqt (hr.mono (by omega)) (dkcons (dvar 0) dknil) B.list (by decide +kernel)) danil)) (dcb (call_reprD (hG trivial) (by have := hr.un; omega)) kRepr B.repr (by decide +kernel) (dacons (dvar 1) danil)))))))
abbrev s__law_choices_hold : Stmt := top 43
theorem sc__law_choices_hold : FnScope [("_law_source" : Str), ("_law_sizes_here" : Str), ("_law_all_of" : Str), ("_law_low" : Str), ("_law_high" : Str), ("_law_lot" : Str), ("_law_here" : Str), ("_law_mixed" : Str), ("_law_house" : Str), ("_law_put" : Str)] [("_law_source" : Str), ("_law_sizes_here" : Str), ("_law_all_of" : Str)] (defScope s__law_choices_hold) := ⟨rfl, rfl, rfl, by decide +kernel, rfl, by decide +kernel, by decide +kernel⟩
def p__law_choices_hold (C_NotUsable : Addr) : SFn SrcG := (sSeq (sAsg 3 (fOp oIx (fVar 2) (fCallS 2 (v__law_draw C_NotUsable) (aCons (fVar 0) (aCons (fCB bLen (aCons (fVar 2) aNil)) aNil)))))
  (sSeq (sAsg 4 (fOp oIx (fVar 2) (fOp oSub (fOp oSub (fCB bLen (aCons (fVar 2) aNil)) (fC (.int 1))) (fCallS 2 (v__law_draw C_NotUsable) (aCons (fVar 0) (aCons (fCB bLen (aCons (fVar 2) aNil)) aNil))))))
  (sSeq (sFor (iAny (fFrz (fCall 1 (v__law_lots C_NotUsable) (aCons (fCB bLen (aCons (fVar 1) aNil)) aNil)))) (asgN 5) (sSeq (sAsg 6 (fCall 3 (v_choices_on C_NotUsable) (aCons (fVar 1) (aCons (fVar 4) (aCons (fVar 5) aNil)))))
  (sSeq (sIf (fOp oNeS (fCB bRepr (aCons (fVar 6) aNil)) (fCB bRepr (aCons (fCB bTuple (aCons (fLc [8] (iAny (fVar 5)) (asgN 8) fYes (fOp oIx (fVar 4) (fVar 8))) aNil)) aNil))) (sRet (fC (.bool false))) sNil)
  (sSeq (sAsg 7 (fCB bList (aCons (fVar 3) aNil)))
  (sSeq (sFor (iAny (fVar 5)) (asgN 8) (sSetI 7 (fVar 8) (fOp oIx (fVar 4) (fVar 8))))
  (sSeq (sAsg 9 (fCall 4 (v_put_on C_NotUsable) (aCons (fVar 1) (aCons (fVar 3) (aCons (fVar 5) (aCons (fCB bTuple (aCons (fLc [8] (iAny (fVar 5)) (asgN 8) fYes (fOp oIx (fVar 4) (fVar 8))) aNil)) aNil))))))
  (sSeq (sIf (fOp oNeS (fCB bRepr (aCons (fVar 9) aNil)) (fCB bRepr (aCons (fCB bTuple (aCons (fVar 7) aNil)) aNil))) (sRet (fC (.bool false))) sNil)
  (sIf (fOp oNeS (fCB bRepr (aCons (fCall 4 (v_put_on C_NotUsable) (aCons (fVar 1) (aCons (fVar 9) (aCons (fVar 5) (aCons (fCB bTuple (aCons (fLc [8] (iAny (fVar 5)) (asgN 8) fYes (fOp oIx (fVar 3) (fVar 8))) aNil)) aNil))))) aNil)) (fCB bRepr (aCons (fVar 3) aNil))) (sRet (fC (.bool false))) sNil))))))))
  (sRet (fC (.bool true))))))
def v__law_choices_hold (C_NotUsable : Addr) : List SV → SrcG → Out SrcG := runS [("_law_source" : Str), ("_law_sizes_here" : Str), ("_law_all_of" : Str), ("_law_low" : Str), ("_law_high" : Str), ("_law_lot" : Str), ("_law_here" : Str), ("_law_mixed" : Str), ("_law_house" : Str), ("_law_put" : Str)] (p__law_choices_hold C_NotUsable)
theorem f__law_choices_hold (B : Bk mg) (e_NotUsable : Ex2 P w K mg base "NotUsable" C_NotUsable "word" "at") (c__law_draw : DfnS True P w K mg base Fm 1 "_law_draw" 2 (v__law_draw C_NotUsable)) (c__law_lots : Dfn True P w K mg base 1 "_law_lots" 1 (v__law_lots C_NotUsable)) (c_choices_on : Dfn True P w K mg base 6 "choices_on" 3 (v_choices_on C_NotUsable)) (c_put_on : Dfn True P w K mg base 6 "put_on" 4 (v_put_on C_NotUsable)) {f : Addr} {fd : FuncData} (F : Fun K "_law_choices_hold" "_law_choices_hold" s__law_choices_hold f fd) : FnG True P w K mg base 7 f fd [("_law_source" : Str), ("_law_sizes_here" : Str), ("_law_all_of" : Str)] (spS Fm K 3 (v__law_choices_hold C_NotUsable)) := fnS F sc__law_choices_hold fun cdv A outer s H D E i hr tk hp hG => by
  have nd := sc__law_choices_hold.nd
  have hI : Fm i = Fm i := rfl
  exact (dscons (dset 3 nd (dix ix_seq kIx (dvar 2) (dcallDS hI tk hG c__law_draw (hr.mono (by omega)) (dacons (dvar 0) (dacons (dcb call_len kLen B.len (by decide +kernel) (dacons (dvar 2) danil)) danil)))))
  (dscons (dset 4 nd (dix ix_seq kIx (dvar 2) (dop op_sub kSub (dop op_sub kSub (dcb call_len kLen B.len (by decide +kernel) (dacons (dvar 2) danil)) dint) (dcallDS hI tk hG c__law_draw (hr.mono (by omega)) (dacons (dvar 0) (dacons (dcb call_len kLen B.len (by decide +kernel) (dacons (dvar 2) danil)) danil))))))
  (dscons (dfor hp rfl (diany (dfrz (dcallD tk hG c__law_lots (hr.mono (by omega)) (dacons (dcb call_len kLen B.len (by decide +kernel) (dacons (dvar 1) danil)) danil)))) (dgN 5 nd) (tgN 5) (dscons (dset 6 nd (dcallD tk hG c_choices_on (hr.mono (by omega)) (dacons (dvar 1) (dacons (dvar 4) (dacons (dvar 5) danil)))))
  (dscons (dif_ (dtcmp (op_neS (hu64 hr)) kNeS (dcb (call_reprD (hG trivial) (by have := hr.un; omega)) kRepr B.repr (by decide +kernel) (dacons (dvar 6) danil)) (dcb (call_reprD (hG trivial) (by have := hr.un; omega)) kRepr B.repr (by decide +kernel) (dacons (dct call_tuple_of kTuple B.tuple (by decide +kernel) (dacons (dlc0 (own := [("_law_house", 8)]) rfl nd (diany (dvar 5)) (blkOk_by (by rfl)) (fun _ _ _ _ _ => (dgN 8 nd)) (tgN 8) (towN (by decide)) (fun _ _ _ _ _ => (dix ix_seq kIx (dvar 4) (dvar 8)))) danil)) danil))) (dsone (dret dbl)) dsnil)
  (dscons (dset 7 nd (dct call_list_of kList B.list (by decide +kernel) (dacons (dvar 3) danil)))
  (dscons (dfor hp rfl (diany (dvar 5)) (dgN 8 nd) (tgN 8) (dsone (dseti 7 (pv 7) (dvar 8) (dix ix_seq kIx (dvar 4) (dvar 8)))))
  (dscons (dset 9 nd (dcallD tk hG c_put_on (hr.mono (by omega)) (dacons (dvar 1) (dacons (dvar 3) (dacons (dvar 5) (dacons (dct call_tuple_of kTuple B.tuple (by decide +kernel) (dacons (dlc0 (own := [("_law_house", 8)]) rfl nd (diany (dvar 5)) (blkOk_by (by rfl)) (fun _ _ _ _ _ => (dgN 8 nd)) (tgN 8) (towN (by decide)) (fun _ _ _ _ _ => (dix ix_seq kIx (dvar 4) (dvar 8)))) danil)) danil))))))
  (dscons (dif_ (dtcmp (op_neS (hu64 hr)) kNeS (dcb (call_reprD (hG trivial) (by have := hr.un; omega)) kRepr B.repr (by decide +kernel) (dacons (dvar 9) danil)) (dcb (call_reprD (hG trivial) (by have := hr.un; omega)) kRepr B.repr (by decide +kernel) (dacons (dct call_tuple_of kTuple B.tuple (by decide +kernel) (dacons (dvar 7) danil)) danil))) (dsone (dret dbl)) dsnil)
  (dsone (dif_ (dtcmp (op_neS (hu64 hr)) kNeS (dcb (call_reprD (hG trivial) (by have := hr.un; omega)) kRepr B.repr (by decide +kernel) (dacons (dcallD tk hG c_put_on (hr.mono (by omega)) (dacons (dvar 1) (dacons (dvar 9) (dacons (dvar 5) (dacons (dct call_tuple_of kTuple B.tuple (by decide +kernel) (dacons (dlc0 (own := [("_law_house", 8)]) rfl nd (diany (dvar 5)) (blkOk_by (by rfl)) (fun _ _ _ _ _ => (dgN 8 nd)) (tgN 8) (towN (by decide)) (fun _ _ _ _ _ => (dix ix_seq kIx (dvar 3) (dvar 8)))) danil)) danil))))) danil)) (dcb (call_reprD (hG trivial) (by have := hr.un; omega)) kRepr B.repr (by decide +kernel) (dacons (dvar 3) danil))) (dsone (dret dbl)) dsnil)))))))))
  (dsone (dret dbl)))))
abbrev s__law_common : Stmt := top 44
theorem sc__law_common : FnScope [("_law_one_number" : Str), ("_law_other_number" : Str), ("_law_high" : Str), ("_law_low" : Str), ("_law_k" : Str), ("_law_rest" : Str)] [("_law_one_number" : Str), ("_law_other_number" : Str)] (defScope s__law_common) := ⟨rfl, rfl, rfl, by decide +kernel, rfl, by decide +kernel, by decide +kernel⟩
def p__law_common (C_NotUsable : Addr) : SFn Unit := (sSeq (sAsg 2 (fCB bAbs (aCons (fVar 0) aNil)))
  (sSeq (sAsg 3 (fCB bAbs (aCons (fVar 1) aNil)))
  (sSeq (sFor (iRng1F (aCons (fC (.int 900)) aNil)) (asgN 4) (sSeq (sIf (fOp oEqS (fVar 3) (fC (.int 0))) sBrk sNil)
  (sSeq (sAsg 5 (fOp oMod (fCB bInt (aCons (fVar 2) aNil)) (fVar 3)))
  (sSeq (sAsg 2 (fVar 3))
  (sAsg 3 (fVar 5))))))
  (sRetV 2))))
def v__law_common (C_NotUsable : Addr) : List PyData → Out Unit := runP [("_law_one_number" : Str), ("_law_other_number" : Str), ("_law_high" : Str), ("_law_low" : Str), ("_law_k" : Str), ("_law_rest" : Str)] (p__law_common C_NotUsable)
theorem f__law_common (B : Bk mg) (e_NotUsable : Ex2 P w K mg base "NotUsable" C_NotUsable "word" "at") {f : Addr} {fd : FuncData} (F : Fun K "_law_common" "_law_common" s__law_common f fd) : FnG gd P w K mg base 1 f fd [("_law_one_number" : Str), ("_law_other_number" : Str)] (spP K 2 (v__law_common C_NotUsable)) := fnP F sc__law_common fun cdv A outer s H D E hr tk hp hG => by
  have nd := sc__law_common.nd
  exact (dscons (dset 2 nd (dcb call_abs kAbs B.abs (by decide +kernel) (dacons (dvar 0) danil)))
  (dscons (dset 3 nd (dcb call_abs kAbs B.abs (by decide +kernel) (dacons (dvar 1) danil)))
  (dscons (dfor hp rfl (dirng1 rfl B.range (dacons dint danil)) (dgN 4 nd) (tgN 4) (dscons (dif_ (dtcmp (op_eqS (hu64 hr)) kEqS (dvar 3) dint) (dsone dbreak) dsnil)
  (dscons (dset 5 nd (dop op_mod kMod (dct call_int1 kInt B.int (by decide +kernel) (dacons (dvar 2) danil)) (dvar 3)))
  (dscons (dset 2 nd (dvar 3))
  (dsone (dset 3 nd (dvar 5)))))))
  (dsone (dretv 2 (pv 2))))))
abbrev s__law_is_worth : Stmt := top 45
theorem sc__law_is_worth : FnScope [("_law_told" : Str), ("_law_high" : Str), ("_law_low" : Str), ("_law_each" : Str)] [("_law_told" : Str), ("_law_high" : Str), ("_law_low" : Str)] (defScope s__law_is_worth) := ⟨rfl, rfl, rfl, by decide +kernel, rfl, by decide +kernel, by decide +kernel⟩
def p__law_is_worth (C_NotUsable : Addr) : SFn Unit := (sSeq (sIf (fOr (fNot (fIsi "tuple" (fVar 0))) (fOp oNeS (fCB bLen (aCons (fVar 0) aNil)) (fC (.int 2)))) (sRet (fC (.bool false))) sNil)
  (sSeq (sFor (iAny (fVar 0)) (asgN 3) (sIf (fOr (fNot (fIsi "int" (fVar 3))) (fIsi "bool" (fVar 3))) (sRet (fC (.bool false))) sNil))
  (sSeq (sIf (fOr (fOp oLt (fOp oIx (fVar 0) (fC (.int 1))) (fC (.int 1))) (fOp oNeS (fCall 2 (v__law_common C_NotUsable) (aCons (fOp oIx (fVar 0) (fC (.int 0))) (aCons (fOp oIx (fVar 0) (fC (.int 1))) aNil))) (fC (.int 1)))) (sRet (fC (.bool false))) sNil)
  (sRet (fOp oEqS (fOp oMul (fOp oIx (fVar 0) (fC (.int 0))) (fVar 2)) (fOp oMul (fVar 1) (fOp oIx (fVar 0) (fC (.int 1)))))))))
def v__law_is_worth (C_NotUsable : Addr) : List PyData → Out Unit := runP [("_law_told" : Str), ("_law_high" : Str), ("_law_low" : Str), ("_law_each" : Str)] (p__law_is_worth C_NotUsable)
theorem f__law_is_worth (B : Bk mg) (e_NotUsable : Ex2 P w K mg base "NotUsable" C_NotUsable "word" "at") (c__law_common : Dfn gd P w K mg base 1 "_law_common" 2 (v__law_common C_NotUsable)) {f : Addr} {fd : FuncData} (F : Fun K "_law_is_worth" "_law_is_worth" s__law_is_worth f fd) : FnG gd P w K mg base 2 f fd [("_law_told" : Str), ("_law_high" : Str), ("_law_low" : Str)] (spP K 3 (v__law_is_worth C_NotUsable)) := fnP F sc__law_is_worth fun cdv A outer s H D E hr tk hp hG => by
  have nd := sc__law_is_worth.nd
  exact (dscons (dif_ (dtw (dwor (dtnot (dtval (disi (dvar 0) B.isinstance B.tuple (by decide +kernel)))) (dwor1 (dtcmp (op_neS (hu64 hr)) kNeS (dcb call_len kLen B.len (by decide +kernel) (dacons (dvar 0) danil)) dint)))) (dsone (dret dbl)) dsnil)
  (dscons (dfor hp rfl (diany (dvar 0)) (dgN 3 nd) (tgN 3) (dsone (dif_ (dtw (dwor (dtnot (dtval (disi (dvar 3) B.isinstance B.int (by decide +kernel)))) (dwor1 (dtval (disi (dvar 3) B.isinstance B.bool (by decide +kernel)))))) (dsone (dret dbl)) dsnil)))
  (dscons (dif_ (dtw (dwor (dtcmp op_lt kLt (dix ix_seq kIx (dvar 0) dint) dint) (dwor1 (dtcmp (op_neS (hu64 hr)) kNeS (dcallD tk hG c__law_common (hr.mono (by omega)) (dacons (dix ix_seq kIx (dvar 0) dint) (dacons (dix ix_seq kIx (dvar 0) dint) danil))) dint)))) (dsone (dret dbl)) dsnil)
  (dsone (dret (dcmp (op_eqS (hu64 hr)) kEqS (dop op_mulW kMul (dix ix_seq kIx (dvar 0) dint) (dvar 2)) (dop op_mulW kMul (dvar 1) (dix ix_seq kIx (dvar 0) dint))))))))
abbrev s__law_quotient : Stmt := top 46
theorem sc__law_quotient : FnScope [("_law_source" : Str), ("_law_high" : Str), ("_law_low" : Str), ("_law_factor" : Str)] [("_law_source" : Str)] (defScope s__law_quotient) := ⟨rfl, rfl, rfl, by decide +kernel, rfl, by decide +kernel, by decide +kernel⟩
def p__law_quotient (C_NotUsable : Addr) : SFn SrcG := (sSeq (sAsg 1 (fOp oMul (fCallS 2 (v__law_number C_NotUsable) (aCons (fVar 0) (aCons (fOp oAdd (fC (.int 1)) (fCallS 2 (v__law_draw C_NotUsable) (aCons (fVar 0) (aCons (fC (.int 7)) aNil)))) aNil))) (fOp oIx (fLst (aCons (fC (.int 1)) (aCons (fUn oNeg (fC (.int 1))) aNil))) (fCallS 2 (v__law_draw C_NotUsable) (aCons (fVar 0) (aCons (fC (.int 2)) aNil))))))
  (sSeq (sAsg 2 (fOp oAdd (fC (.int 1)) (fCallS 2 (v__law_number C_NotUsable) (aCons (fVar 0) (aCons (fCallS 2 (v__law_draw C_NotUsable) (aCons (fVar 0) (aCons (fC (.int 7)) aNil))) aNil)))))
  (sSeq (sIf (fOp oEqS (fCallS 2 (v__law_draw C_NotUsable) (aCons (fVar 0) (aCons (fC (.int 2)) aNil))) (fC (.int 0))) (sSeq (sAsg 3 (fOp oAdd (fC (.int 1)) (fCallS 2 (v__law_number C_NotUsable) (aCons (fVar 0) (aCons (fOp oAdd (fC (.int 1)) (fCallS 2 (v__law_draw C_NotUsable) (aCons (fVar 0) (aCons (fC (.int 5)) aNil)))) aNil)))))
  (sSeq (sAsg 1 (fOp oMul (fVar 1) (fVar 3)))
  (sAsg 2 (fOp oMul (fVar 2) (fVar 3))))) sNil)
  (sRet (fTup (aCons (fVar 1) (aCons (fOp oMul (fVar 2) (fOp oIx (fLst (aCons (fC (.int 1)) (aCons (fUn oNeg (fC (.int 1))) aNil))) (fCallS 2 (v__law_draw C_NotUsable) (aCons (fVar 0) (aCons (fC (.int 2)) aNil))))) aNil)))))))
def v__law_quotient (C_NotUsable : Addr) : List SV → SrcG → Out SrcG := runS [("_law_source" : Str), ("_law_high" : Str), ("_law_low" : Str), ("_law_factor" : Str)] (p__law_quotient C_NotUsable)
theorem f__law_quotient (B : Bk mg) (e_NotUsable : Ex2 P w K mg base "NotUsable" C_NotUsable "word" "at") (c__law_draw : DfnS gd P w K mg base Fm 1 "_law_draw" 2 (v__law_draw C_NotUsable)) (c__law_number : DfnS gd P w K mg base Fm 2 "_law_number" 2 (v__law_number C_NotUsable)) {f : Addr} {fd : FuncData} (F : Fun K "_law_quotient" "_law_quotient" s__law_quotient f fd) : FnG gd P w K mg base 3 f fd [("_law_source" : Str)] (spS Fm K 1 (v__law_quotient C_NotUsable)) := fnS F sc__law_quotient fun cdv A outer s H D E i hr tk hp hG => by
  have nd := sc__law_quotient.nd
  have hI : Fm i = Fm i := rfl
  exact (dscons (dset 1 nd (dop op_mulW kMul (dcallDS hI tk hG c__law_number (hr.mono (by omega)) (dacons (dvar 0) (dacons (dop op_addAll kAdd dint (dcallDS hI tk hG c__law_draw (hr.mono (by omega)) (dacons (dvar 0) (dacons dint danil)))) danil))) (dix ix_seq kIx (dlst (dacons dint (dacons (dun un_neg kNeg dint) danil))) (dcallDS hI tk hG c__law_draw (hr.mono (by omega)) (dacons (dvar 0) (dacons dint danil))))))
  (dscons (dset 2 nd (dop op_addAll kAdd dint (dcallDS hI tk hG c__law_number (hr.mono (by omega)) (dacons (dvar 0) (dacons (dcallDS hI tk hG c__law_draw (hr.mono (by omega)) (dacons (dvar 0) (dacons dint danil))) danil)))))
  (dscons (dif_ (dtcmp (op_eqS (hu64 hr)) kEqS (dcallDS hI tk hG c__law_draw (hr.mono (by omega)) (dacons (dvar 0) (dacons dint danil))) dint) (dscons (dset 3 nd (dop op_addAll kAdd dint (dcallDS hI tk hG c__law_number (hr.mono (by omega)) (dacons (dvar 0) (dacons (dop op_addAll kAdd dint (dcallDS hI tk hG c__law_draw (hr.mono (by omega)) (dacons (dvar 0) (dacons dint danil)))) danil)))))
  (dscons (dset 1 nd (dop op_mulW kMul (dvar 1) (dvar 3)))
  (dsone (dset 2 nd (dop op_mulW kMul (dvar 2) (dvar 3)))))) dsnil)
  (dsone (dret (dtup (dacons (dvar 1) (dacons (dop op_mulW kMul (dvar 2) (dix ix_seq kIx (dlst (dacons dint (dacons (dun un_neg kNeg dint) danil))) (dcallDS hI tk hG c__law_draw (hr.mono (by omega)) (dacons (dvar 0) (dacons dint danil))))) danil))))))))
abbrev s__law_quotients_hold : Stmt := top 47
theorem sc__law_quotients_hold : FnScope [("_law_source" : Str), ("_law_lap" : Str), ("_law_top" : Str), ("_law_bottom" : Str), ("_law_left" : Str), ("_law_right" : Str), ("_law_first" : Str), ("_law_second" : Str), ("_law_low" : Str), ("_law_high" : Str)] [("_law_source" : Str)] (defScope s__law_quotients_hold) := ⟨rfl, rfl, rfl, by decide +kernel, rfl, by decide +kernel, by decide +kernel⟩
def p__law_quotients_hold (C_NotUsable : Addr) : SFn SrcG := (sSeq (sFor (iRng1F (aCons (fC (.int 4)) aNil)) (asgN 1) (sSeq (sAsg 4 (fCallS 1 (v__law_quotient C_NotUsable) (aCons (fVar 0) aNil)))
  (sSeq (sAsg 5 (fCallS 1 (v__law_quotient C_NotUsable) (aCons (fVar 0) aNil)))
  (sSeq (sAsg 6 (fCall 2 (v_quotient_of C_NotUsable) (aCons (fOp oIx (fVar 4) (fC (.int 0))) (aCons (fOp oIx (fVar 4) (fC (.int 1))) aNil))))
  (sSeq (sAsg 7 (fCall 2 (fun ds => v_quotient_of C_NotUsable ds.reverse) (aCons (fOp oIx (fVar 5) (fC (.int 1))) (aCons (fOp oIx (fVar 5) (fC (.int 0))) aNil))))
  (sSeq (sIf (fOr (fNot (fCall 3 (v__law_is_worth C_NotUsable) (aCons (fVar 6) (aCons (fOp oIx (fVar 4) (fC (.int 0))) (aCons (fOp oIx (fVar 4) (fC (.int 1))) aNil))))) (fNot (fCall 3 (v__law_is_worth C_NotUsable) (aCons (fVar 7) (aCons (fOp oIx (fVar 5) (fC (.int 0))) (aCons (fOp oIx (fVar 5) (fC (.int 1))) aNil)))))) (sRet (fC (.bool false))) sNil)
  (sSeq (sAsg 8 (fOp oMul (fOp oIx (fVar 4) (fC (.int 1))) (fOp oIx (fVar 5) (fC (.int 1)))))
  (sSeq (sAsg 9 (fOp oAdd (fOp oMul (fOp oIx (fVar 4) (fC (.int 0))) (fOp oIx (fVar 5) (fC (.int 1)))) (fOp oMul (fOp oIx (fVar 5) (fC (.int 0))) (fOp oIx (fVar 4) (fC (.int 1))))))
  (sSeq (sIf (fNot (fCall 3 (v__law_is_worth C_NotUsable) (aCons (fCall 2 (v_plus C_NotUsable) (aCons (fVar 6) (aCons (fVar 7) aNil))) (aCons (fVar 9) (aCons (fVar 8) aNil))))) (sRet (fC (.bool false))) sNil)
  (sSeq (sIf (fNot (fCall 3 (v__law_is_worth C_NotUsable) (aCons (fCall 2 (v_plus C_NotUsable) (aCons (fVar 7) (aCons (fVar 6) aNil))) (aCons (fVar 9) (aCons (fVar 8) aNil))))) (sRet (fC (.bool false))) sNil)
  (sSeq (sIf (fNot (fCall 3 (v__law_is_worth C_NotUsable) (aCons (fCall 2 (v_times C_NotUsable) (aCons (fVar 6) (aCons (fVar 7) aNil))) (aCons (fOp oMul (fOp oIx (fVar 4) (fC (.int 0))) (fOp oIx (fVar 5) (fC (.int 0)))) (aCons (fVar 8) aNil))))) (sRet (fC (.bool false))) sNil)
  (sSeq (sIf (fOr (fOp oNeS (fCB bRepr (aCons (fCall 2 (v_plus C_NotUsable) (aCons (fVar 6) (aCons (fTup (aCons (fUn oNeg (fOp oIx (fVar 6) (fC (.int 0)))) (aCons (fOp oIx (fVar 6) (fC (.int 1))) aNil))) aNil))) aNil)) (fC (.str "(0, 1)"))) (fOp oIsNot (fCall 1 (v_is_quotient C_NotUsable) (aCons (fVar 6) aNil)) (fC (.bool true)))) (sRet (fC (.bool false))) sNil)
  (sIf (fOr (fOp oIsNot (fCall 1 (v_is_quotient C_NotUsable) (aCons (fTup (aCons (fOp oMul (fOp oIx (fVar 6) (fC (.int 0))) (fC (.int 3))) (aCons (fOp oMul (fOp oIx (fVar 6) (fC (.int 1))) (fC (.int 3))) aNil))) aNil)) (fC (.bool false))) (fOp oIsNot (fCall 1 (v_is_quotient C_NotUsable) (aCons (fFrz (fCB bList (aCons (fVar 6) aNil))) aNil)) (fC (.bool false)))) (sRet (fC (.bool false))) sNil)))))))))))))
  (sSeq (sAsg 2 (fCallS 2 (v__law_number C_NotUsable) (aCons (fVar 0) (aCons (fC (.int 20)) aNil))))
  (sSeq (sAsg 3 (fOp oAdd (fC (.int 1)) (fCallS 2 (v__law_number C_NotUsable) (aCons (fVar 0) (aCons (fC (.int 19)) aNil)))))
  (sRet (fCall 3 (v__law_is_worth C_NotUsable) (aCons (fCall 2 (v_quotient_of C_NotUsable) (aCons (fVar 2) (aCons (fUn oNeg (fVar 3)) aNil))) (aCons (fVar 2) (aCons (fUn oNeg (fVar 3)) aNil))))))))
def v__law_quotients_hold (C_NotUsable : Addr) : List SV → SrcG → Out SrcG := runS [("_law_source" : Str), ("_law_lap" : Str), ("_law_top" : Str), ("_law_bottom" : Str), ("_law_left" : Str), ("_law_right" : Str), ("_law_first" : Str), ("_law_second" : Str), ("_law_low" : Str), ("_law_high" : Str)] (p__law_quotients_hold C_NotUsable)
theorem f__law_quotients_hold (B : Bk mg) (e_NotUsable : Ex2 P w K mg base "NotUsable" C_NotUsable "word" "at") (c__law_is_worth : Dfn True P w K mg base 2 "_law_is_worth" 3 (v__law_is_worth C_NotUsable)) (c__law_number : DfnS True P w K mg base Fm 2 "_law_number" 2 (v__law_number C_NotUsable)) (c__law_quotient : DfnS True P w K mg base Fm 3 "_law_quotient" 1 (v__law_quotient C_NotUsable)) (c_is_quotient : Dfn True P w K mg base 3 "is_quotient" 1 (v_is_quotient C_NotUsable)) (c_plus : Dfn True P w K mg base 5 "plus" 2 (v_plus C_NotUsable)) (c_quotient_of : Dfn True P w K mg base 4 "quotient_of" 2 (v_quotient_of C_NotUsable)) (c_times : Dfn True P w K mg base 5 "times" 2 (v_times C_NotUsable)) (k_quotient_of : DfnK True P w K mg base 4 "quotient_of" [("bottom" : Str), ("top" : Str)] 2 (v_quotient_of C_NotUsable)) {f : Addr} {fd : FuncData} (F : Fun K "_law_quotients_hold" "_law_quotients_hold" s__law_quotients_hold f fd) : FnG True P w K mg base 6 f fd [("_law_source" : Str)] (spS Fm K 1 (v__law_quotients_hold C_NotUsable)) := fnS F sc__law_quotients_hold fun cdv A outer s H D E i hr tk hp hG => by
  have nd := sc__law_quotients_hold.nd
  have hI : Fm i = Fm i := rfl
  exact (dscons (dfor hp rfl (dirng1 rfl B.range (dacons dint danil)) (dgN 1 nd) (tgN 1) (dscons (dset 4 nd (dcallDS hI tk hG c__law_quotient (hr.mono (by omega)) (dacons (dvar 0) danil)))
  (dscons (dset 5 nd (dcallDS hI tk hG c__law_quotient (hr.mono (by omega)) (dacons (dvar 0) danil)))
  (dscons (dset 6 nd (dcallD tk hG c_quotient_of (hr.mono (by omega)) (dacons (dix ix_seq kIx (dvar 4) dint) (dacons (dix ix_seq kIx (dvar 4) dint) danil))))
  (dscons (dset 7 nd (dcallDK tk hG k_quotient_of (hr.mono (by omega)) (dkcons (dix ix_seq kIx (dvar 5) dint) (dkcons (dix ix_seq kIx (dvar 5) dint) dknil))))
  (dscons (dif_ (dtw (dwor (dtnot (dtval (dcallD tk hG c__law_is_worth (hr.mono (by omega)) (dacons (dvar 6) (dacons (dix ix_seq kIx (dvar 4) dint) (dacons (dix ix_seq kIx (dvar 4) dint) danil)))))) (dwor1 (dtnot (dtval (dcallD tk hG c__law_is_worth (hr.mono (by omega)) (dacons (dvar 7) (dacons (dix ix_seq kIx (dvar 5) dint) (dacons (dix ix_seq kIx (dvar 5) dint) danil))))))))) (dsone (dret dbl)) dsnil)
  (dscons (dset 8 nd (dop op_mulW kMul (dix ix_seq kIx (dvar 4) dint) (dix ix_seq kIx (dvar 5) dint)))
  (dscons (dset 9 nd (dop op_addAll kAdd (dop op_mulW kMul (dix ix_seq kIx (dvar 4) dint) (dix ix_seq kIx (dvar 5) dint)) (dop op_mulW kMul (dix ix_seq kIx (dvar 5) dint) (dix ix_seq kIx (dvar 4) dint))))
  (dscons (dif_ (dtnot (dtval (dcallD tk hG c__law_is_worth (hr.mono (by omega)) (dacons (dcallD tk hG c_plus (hr.mono (by omega)) (dacons (dvar 6) (dacons (dvar 7) danil))) (dacons (dvar 9) (dacons (dvar 8) danil)))))) (dsone (dret dbl)) dsnil)
  (dscons (dif_ (dtnot (dtval (dcallD tk hG c__law_is_worth (hr.mono (by omega)) (dacons (dcallD tk hG c_plus (hr.mono (by omega)) (dacons (dvar 7) (dacons (dvar 6) danil))) (dacons (dvar 9) (dacons (dvar 8) danil)))))) (dsone (dret dbl)) dsnil)
  (dscons (dif_ (dtnot (dtval (dcallD tk hG c__law_is_worth (hr.mono (by omega)) (dacons (dcallD tk hG c_times (hr.mono (by omega)) (dacons (dvar 6) (dacons (dvar 7) danil))) (dacons (dop op_mulW kMul (dix ix_seq kIx (dvar 4) dint) (dix ix_seq kIx (dvar 5) dint)) (dacons (dvar 8) danil)))))) (dsone (dret dbl)) dsnil)
  (dscons (dif_ (dtw (dwor (dtcmp (op_neS (hu64 hr)) kNeS (dcb (call_reprD (hG trivial) (by have := hr.un; omega)) kRepr B.repr (by decide +kernel) (dacons (dcallD tk hG c_plus (hr.mono (by omega)) (dacons (dvar 6) (dacons (dtup (dacons (dun un_neg kNeg (dix ix_seq kIx (dvar 6) dint)) (dacons (dix ix_seq kIx (dvar 6) dint) danil))) danil))) danil)) dstr) (dwor1 (dtcmp op_notBl kIsNot (dcallD tk hG c_is_quotient (hr.mono (by omega)) (dacons (dvar 6) danil)) dbl)))) (dsone (dret dbl)) dsnil)
  (dsone (dif_ (dtw (dwor (dtcmp op_notBl kIsNot (dcallD tk hG c_is_quotient (hr.mono (by omega)) (dacons (dtup (dacons (dop op_mulW kMul (dix ix_seq kIx (dvar 6) dint) dint) (dacons (dop op_mulW kMul (dix ix_seq kIx (dvar 6) dint) dint) danil))) danil)) dbl) (dwor1 (dtcmp op_notBl kIsNot (dcallD tk hG c_is_quotient (hr.mono (by omega)) (dacons (dfrz (dct call_list_of kList B.list (by decide +kernel) (dacons (dvar 6) danil))) danil)) dbl)))) (dsone (dret dbl)) dsnil))))))))))))))
  (dscons (dset 2 nd (dcallDS hI tk hG c__law_number (hr.mono (by omega)) (dacons (dvar 0) (dacons dint danil))))
  (dscons (dset 3 nd (dop op_addAll kAdd dint (dcallDS hI tk hG c__law_number (hr.mono (by omega)) (dacons (dvar 0) (dacons dint danil)))))
  (dsone (dret (dcallD tk hG c__law_is_worth (hr.mono (by omega)) (dacons (dcallD tk hG c_quotient_of (hr.mono (by omega)) (dacons (dvar 2) (dacons (dun un_neg kNeg (dvar 3)) danil))) (dacons (dvar 2) (dacons (dun un_neg kNeg (dvar 3)) danil)))))))))
abbrev s__law_rows_fold : Stmt := top 48
theorem sc__law_rows_fold : FnScope [("_law_source" : Str), ("_law_many" : Str), ("_law_total" : Str), ("_law_product" : Str), ("_law_k" : Str), ("_law_sign" : Str)] [("_law_source" : Str)] (defScope s__law_rows_fold) := ⟨rfl, rfl, rfl, by decide +kernel, rfl, by decide +kernel, by decide +kernel⟩
def p__law_rows_fold (C_NotUsable : Addr) : SFn SrcG := (sSeq (sAsg 1 (fOp oAdd (fC (.int 2)) (fCallS 2 (v__law_draw C_NotUsable) (aCons (fVar 0) (aCons (fC (.int 19)) aNil)))))
  (sSeq (sAsg 2 (fTup (aCons (fC (.int 0)) (aCons (fC (.int 1)) aNil))))
  (sSeq (sAsg 3 (fTup (aCons (fC (.int 1)) (aCons (fC (.int 1)) aNil))))
  (sSeq (sFor (iRng2F (aCons (fC (.int 1)) (aCons (fVar 1) aNil))) (asgN 4) (sSeq (sAsg 2 (fCall 2 (v_plus C_NotUsable) (aCons (fVar 2) (aCons (fCall 2 (v_quotient_of C_NotUsable) (aCons (fC (.int 1)) (aCons (fOp oMul (fVar 4) (fOp oAdd (fVar 4) (fC (.int 1)))) aNil))) aNil))))
  (sAsg 3 (fCall 2 (v_times C_NotUsable) (aCons (fCall 2 (v_quotient_of C_NotUsable) (aCons (fUn oNeg (fVar 4)) (aCons (fOp oAdd (fVar 4) (fC (.int 1))) aNil))) (aCons (fVar 3) aNil))))))
  (sSeq (sAsg 5 (fOp oIx (fLst (aCons (fC (.int 1)) (aCons (fUn oNeg (fC (.int 1))) aNil))) (fOp oMod (fCB bInt (aCons (fOp oSub (fVar 1) (fC (.int 1))) aNil)) (fC (.int 2)))))
  (sRet (fOp oEqS (fCB bRepr (aCons (fTup (aCons (fVar 2) (aCons (fVar 3) aNil))) aNil)) (fCB bRepr (aCons (fTup (aCons (fTup (aCons (fOp oSub (fVar 1) (fC (.int 1))) (aCons (fVar 1) aNil))) (aCons (fTup (aCons (fVar 5) (aCons (fVar 1) aNil))) aNil))) aNil)))))))))
def v__law_rows_fold (C_NotUsable : Addr) : List SV → SrcG → Out SrcG := runS [("_law_source" : Str), ("_law_many" : Str), ("_law_total" : Str), ("_law_product" : Str), ("_law_k" : Str), ("_law_sign" : Str)] (p__law_rows_fold C_NotUsable)
theorem f__law_rows_fold (B : Bk mg) (e_NotUsable : Ex2 P w K mg base "NotUsable" C_NotUsable "word" "at") (c__law_draw : DfnS True P w K mg base Fm 1 "_law_draw" 2 (v__law_draw C_NotUsable)) (c_plus : Dfn True P w K mg base 5 "plus" 2 (v_plus C_NotUsable)) (c_quotient_of : Dfn True P w K mg base 4 "quotient_of" 2 (v_quotient_of C_NotUsable)) (c_times : Dfn True P w K mg base 5 "times" 2 (v_times C_NotUsable)) {f : Addr} {fd : FuncData} (F : Fun K "_law_rows_fold" "_law_rows_fold" s__law_rows_fold f fd) : FnG True P w K mg base 6 f fd [("_law_source" : Str)] (spS Fm K 1 (v__law_rows_fold C_NotUsable)) := fnS F sc__law_rows_fold fun cdv A outer s H D E i hr tk hp hG => by
  have nd := sc__law_rows_fold.nd
  have hI : Fm i = Fm i := rfl
  exact (dscons (dset 1 nd (dop op_addAll kAdd dint (dcallDS hI tk hG c__law_draw (hr.mono (by omega)) (dacons (dvar 0) (dacons dint danil)))))
  (dscons (dset 2 nd (dtup (dacons dint (dacons dint danil))))
  (dscons (dset 3 nd (dtup (dacons dint (dacons dint danil))))
  (dscons (dfor hp rfl (dirng2 rfl B.range (dacons dint (dacons (dvar 1) danil))) (dgN 4 nd) (tgN 4) (dscons (dset 2 nd (dcallD tk hG c_plus (hr.mono (by omega)) (dacons (dvar 2) (dacons (dcallD tk hG c_quotient_of (hr.mono (by omega)) (dacons dint (dacons (dop op_mulW kMul (dvar 4) (dop op_addAll kAdd (dvar 4) dint)) danil))) danil))))
  (dsone (dset 3 nd (dcallD tk hG c_times (hr.mono (by omega)) (dacons (dcallD tk hG c_quotient_of (hr.mono (by omega)) (dacons (dun un_neg kNeg (dvar 4)) (dacons (dop op_addAll kAdd (dvar 4) dint) danil))) (dacons (dvar 3) danil)))))))
  (dscons (dset 5 nd (dix ix_seq kIx (dlst (dacons dint (dacons (dun un_neg kNeg dint) danil))) (dop op_mod kMod (dct call_int1 kInt B.int (by decide +kernel) (dacons (dop op_sub kSub (dvar 1) dint) danil)) dint)))
  (dsone (dret (dcmp (op_eqS (hu64 hr)) kEqS (dcb (call_reprD (hG trivial) (by have := hr.un; omega)) kRepr B.repr (by decide +kernel) (dacons (dtup (dacons (dvar 2) (dacons (dvar 3) danil))) danil)) (dcb (call_reprD (hG trivial) (by have := hr.un; omega)) kRepr B.repr (by decide +kernel) (dacons (dtup (dacons (dtup (dacons (dop op_sub kSub (dvar 1) dint) (dacons (dvar 1) danil))) (dacons (dtup (dacons (dvar 5) (dacons (dvar 1) danil))) danil))) danil))))))))))
abbrev s__law_refused : Stmt := top 49
theorem sc__law_refused : FnScope [("_law_number_here" : Str), ("_law_sizes_here" : Str), ("_law_worth" : Str), ("_law_lot" : Str), ("bad" : Str), ("_law_size" : Str)] [("_law_number_here" : Str), ("_law_sizes_here" : Str), ("_law_worth" : Str), ("_law_lot" : Str)] (defScope s__law_refused) := ⟨rfl, rfl, rfl, by decide +kernel, rfl, by decide +kernel, by decide +kernel⟩
def p__law_refused (C_NotUsable : Addr) : SFn Unit := (sSeq (sTryR 4 C_NotUsable "word" "at" (sIf (fOp oEqS (fVar 0) (fC (.int 0))) (sDrop (fCall 2 (v_setting_at C_NotUsable) (aCons (fVar 1) (aCons (fVar 2) aNil)))) (sIf (fOp oEqS (fVar 0) (fC (.int 1))) (sDrop (fCall 2 (v_place_of C_NotUsable) (aCons (fVar 1) (aCons (fVar 2) aNil)))) (sIf (fOp oEqS (fVar 0) (fC (.int 2))) (sDrop (fCall 3 (v_choices_on C_NotUsable) (aCons (fVar 1) (aCons (fVar 2) (aCons (fVar 3) aNil))))) (sIf (fOp oEqS (fVar 0) (fC (.int 3))) (sDrop (fCall 4 (v_put_on C_NotUsable) (aCons (fVar 1) (aCons (fCB bTuple (aCons (fLc [5] (iAny (fVar 1)) (asgN 5) fYes (fC (.int 0))) aNil)) (aCons (fVar 3) (aCons (fVar 2) aNil)))))) (sIf (fOp oEqS (fVar 0) (fC (.int 4))) (sDrop (fListG C_NotUsable 1 (v_settings_of C_NotUsable) (aCons (fVar 2) aNil))) (sIf (fOp oEqS (fVar 0) (fC (.int 5))) (sDrop (fCall 2 (v_quotient_of C_NotUsable) (aCons (fVar 2) (aCons (fC (.int 0)) aNil)))) (sIf (fOp oEqS (fVar 0) (fC (.int 6))) (sDrop (fCall 2 (v_plus C_NotUsable) (aCons (fTup (aCons (fC (.int 1)) (aCons (fC (.int 2)) aNil))) (aCons (fVar 2) aNil)))) (sDrop (fCall 2 (v_times C_NotUsable) (aCons (fVar 2) (aCons (fTup (aCons (fC (.int 1)) (aCons (fC (.int 2)) aNil))) aNil))))))))))))
  (sRet (fC (.str "let"))))
def v__law_refused (C_NotUsable : Addr) : List PyData → Out Unit := runP [("_law_number_here" : Str), ("_law_sizes_here" : Str), ("_law_worth" : Str), ("_law_lot" : Str), ("bad" : Str), ("_law_size" : Str)] (p__law_refused C_NotUsable)
theorem f__law_refused (B : Bk mg) (e_NotUsable : Ex2 P w K mg base "NotUsable" C_NotUsable "word" "at") (eqt : Quiet K C_NotUsable) (c_choices_on : Dfn True P w K mg base 6 "choices_on" 3 (v_choices_on C_NotUsable)) (c_place_of : Dfn True P w K mg base 6 "place_of" 2 (v_place_of C_NotUsable)) (c_plus : Dfn True P w K mg base 5 "plus" 2 (v_plus C_NotUsable)) (c_put_on : Dfn True P w K mg base 6 "put_on" 4 (v_put_on C_NotUsable)) (c_quotient_of : Dfn True P w K mg base 4 "quotient_of" 2 (v_quotient_of C_NotUsable)) (c_setting_at : Dfn True P w K mg base 5 "setting_at" 2 (v_setting_at C_NotUsable)) (c_times : Dfn True P w K mg base 5 "times" 2 (v_times C_NotUsable)) (g_settings_of : GDfn P w K mg base 5 "settings_of" 1 (v_settings_of C_NotUsable)) {f : Addr} {fd : FuncData} (F : Fun K "_law_refused" "_law_refused" s__law_refused f fd) : FnG True P w K mg base 9 f fd [("_law_number_here" : Str), ("_law_sizes_here" : Str), ("_law_worth" : Str), ("_law_lot" : Str)] (spP K 4 (v__law_refused C_NotUsable)) := fnP F sc__law_refused fun cdv A outer s H D E hr tk hp hG => by
  have nd := sc__law_refused.nd
  exact (dscons (dtry (i := 4) e_NotUsable tk nd rfl (hG trivial) (by have := hr.un; omega) rfl rfl rfl rfl rfl B.repr rfl (by decide) (by decide) (by decide) (by first | exact Or.inl rfl | exact Or.inr (Or.inl rfl)) rfl rfl rfl rfl rfl rfl (fun W pn xe tk2 hp2 => (dsone (dif_ (dtcmp (op_eqS (hu64 hr)) kEqS (dvar 0) dint) (dsone (dexpr (dcallD tk2 hG c_setting_at (hr.mono (by omega)) (dacons (dvar 1) (dacons (dvar 2) danil))))) (dsone (dif_ (dtcmp (op_eqS (hu64 hr)) kEqS (dvar 0) dint) (dsone (dexpr (dcallD tk2 hG c_place_of (hr.mono (by omega)) (dacons (dvar 1) (dacons (dvar 2) danil))))) (dsone (dif_ (dtcmp (op_eqS (hu64 hr)) kEqS (dvar 0) dint) (dsone (dexpr (dcallD tk2 hG c_choices_on (hr.mono (by omega)) (dacons (dvar 1) (dacons (dvar 2) (dacons (dvar 3) danil)))))) (dsone (dif_ (dtcmp (op_eqS (hu64 hr)) kEqS (dvar 0) dint) (dsone (dexpr (dcallD tk2 hG c_put_on (hr.mono (by omega)) (dacons (dvar 1) (dacons (dct call_tuple_of kTuple B.tuple (by decide +kernel) (dacons (dlc0 (own := [("_law_size", 5)]) rfl nd (diany (dvar 1)) (blkOk_by (by rfl)) (fun _ _ _ _ _ => (dgN 5 nd)) (tgN 5) (towN (by decide)) (fun _ _ _ _ _ => dint)) danil)) (dacons (dvar 3) (dacons (dvar 2) danil))))))) (dsone (dif_ (dtcmp (op_eqS (hu64 hr)) kEqS (dvar 0) dint) (dsone (dexpr (dlistD tk2 g_settings_of eqt (hr.mono (by omega)) (dacons (dvar 2) danil) B.list (by decide +kernel)))) (dsone (dif_ (dtcmp (op_eqS (hu64 hr)) kEqS (dvar 0) dint) (dsone (dexpr (dcallD tk2 hG c_quotient_of (hr.mono (by omega)) (dacons (dvar 2) (dacons dint danil))))) (dsone (dif_ (dtcmp (op_eqS (hu64 hr)) kEqS (dvar 0) dint) (dsone (dexpr (dcallD tk2 hG c_plus (hr.mono (by omega)) (dacons (dtup (dacons dint (dacons dint danil))) (dacons (dvar 2) danil))))) (dsone (dexpr (dcallD tk2 hG c_times (hr.mono (by omega)) (dacons (dvar 2) (dacons (dtup (dacons dint (dacons dint danil))) danil)))))))))))))))))))))
  (dsone (dret dstr)))
abbrev s__law_ends_hold : Stmt := top 50
theorem sc__law_ends_hold : FnScope [("_law_source" : Str), ("_law_sizes_here" : Str), ("_law_n" : Str), ("_law_spot" : Str), ("_law_last" : Str), ("_law_over" : Str), ("_law_ways" : Str), ("_law_size" : Str), ("_law_asks" : Str), ("_law_each" : Str), ("_law_due" : Str), ("_law_k" : Str)] [("_law_source" : Str), ("_law_sizes_here" : Str)] (defScope s__law_ends_hold) := ⟨rfl, rfl, rfl, by decide +kernel, rfl, by decide +kernel, by decide +kernel⟩
def p__law_ends_hold (C_NotUsable : Addr) : SFn SrcG := (sSeq (sAsg 2 (fCB bLen (aCons (fVar 1) aNil)))
  (sSeq (sAsg 3 (fCallS 2 (v__law_draw C_NotUsable) (aCons (fVar 0) (aCons (fVar 2) aNil))))
  (sSeq (sAsg 4 (fCB bTuple (aCons (fLc [7] (iAny (fVar 1)) (asgN 7) fYes (fOp oSub (fVar 7) (fC (.int 1)))) aNil)))
  (sSeq (sAsg 5 (fCB bTuple (aCons (fLc [11] (iRng1F (aCons (fVar 2) aNil)) (asgN 11) fYes (fOp oSub (fOp oIx (fVar 1) (fVar 11)) (fCB bInt (aCons (fOp oNeS (fVar 11) (fVar 3)) aNil)))) aNil)))
  (sSeq (sAsg 6 (fC (.int 1)))
  (sSeq (sFor (iAny (fVar 1)) (asgN 7) (sAsg 6 (fOp oMul (fVar 6) (fVar 7))))
  (sSeq (sAsg 8 (fLst (aCons (fTup (aCons (fC (.int 0)) (aCons (fVar 6) (aCons (fC (.str "('place', -1)")) aNil)))) (aCons (fTup (aCons (fC (.int 0)) (aCons (fUn oNeg (fC (.int 1))) (aCons (fC (.str "('place', -1)")) aNil)))) (aCons (fTup (aCons (fC (.int 0)) (aCons (fOp oSub (fVar 6) (fC (.int 1))) (aCons (fC (.str "let")) aNil)))) (aCons (fTup (aCons (fC (.int 0)) (aCons (fC (.bool true)) (aCons (fC (.str "('place', -1)")) aNil)))) aNil))))))
  (sSeq (sAsg 8 (fOp oAddL (fVar 8) (fLst (aCons (fTup (aCons (fC (.int 1)) (aCons (fVar 5) (aCons (fC (.str "('setting', -1)")) aNil)))) (aCons (fTup (aCons (fC (.int 1)) (aCons (fVar 4) (aCons (fC (.str "let")) aNil)))) (aCons (fTup (aCons (fC (.int 1)) (aCons (fFrz (fCB bList (aCons (fVar 4) aNil))) (aCons (fC (.str "('setting', -1)")) aNil)))) aNil))))))
  (sSeq (sAsg 8 (fOp oAddL (fVar 8) (fLst (aCons (fTup (aCons (fC (.int 2)) (aCons (fVar 5) (aCons (fC (.str "('setting', -1)")) aNil)))) (aCons (fTup (aCons (fC (.int 2)) (aCons (fVar 4) (aCons (fC (.str "let")) aNil)))) (aCons (fTup (aCons (fC (.int 3)) (aCons (fTup (aCons (fOp oIx (fVar 4) (fVar 3)) aNil)) (aCons (fC (.str "let")) aNil)))) aNil))))))
  (sSeq (sAsg 8 (fOp oAddL (fVar 8) (fLst (aCons (fTup (aCons (fC (.int 3)) (aCons (fTup (aCons (fOp oIx (fVar 5) (fVar 3)) aNil)) (aCons (fC (.str "('choices', -1)")) aNil)))) (aCons (fTup (aCons (fC (.int 3)) (aCons (fTup (aCons (fC (.int 0)) (aCons (fC (.int 0)) aNil))) (aCons (fC (.str "('choices', -1)")) aNil)))) (aCons (fTup (aCons (fC (.int 3)) (aCons (fTup aNil) (aCons (fC (.str "('choices', -1)")) aNil)))) aNil))))))
  (sSeq (sAsg 8 (fOp oAddL (fVar 8) (fLst (aCons (fTup (aCons (fC (.int 3)) (aCons (fFrz (fLst (aCons (fC (.int 0)) aNil))) (aCons (fC (.str "('choices', -1)")) aNil)))) (aCons (fTup (aCons (fC (.int 3)) (aCons (fTup (aCons (fC (.bool false)) aNil)) (aCons (fC (.str "('choices', -1)")) aNil)))) (aCons (fTup (aCons (fC (.int 4)) (aCons (fSl oSl (fVar 1) none (some (fVar 3))) (aCons (fC (.str "let")) aNil)))) aNil))))))
  (sSeq (sAsg 8 (fOp oAddL (fVar 8) (fLst (aCons (fTup (aCons (fC (.int 4)) (aCons (fOp oAdd (fSl oSl (fVar 1) none (some (fVar 3))) (fTup (aCons (fC (.int 0)) aNil))) (aCons (fC (.str "('sizes', -1)")) aNil)))) (aCons (fTup (aCons (fC (.int 5)) (aCons (fC (.int 7)) (aCons (fC (.str "('bottom', -1)")) aNil)))) (aCons (fTup (aCons (fC (.int 5)) (aCons (fC .none) (aCons (fC (.str "('top', -1)")) aNil)))) aNil))))))
  (sSeq (sAsg 8 (fOp oAddL (fVar 8) (fLst (aCons (fTup (aCons (fC (.int 6)) (aCons (fTup (aCons (fC (.int 2)) (aCons (fC (.int 2)) aNil))) (aCons (fC (.str "('other', -1)")) aNil)))) (aCons (fTup (aCons (fC (.int 6)) (aCons (fTup (aCons (fC (.int 3)) (aCons (fC (.int 2)) aNil))) (aCons (fC (.str "let")) aNil)))) (aCons (fTup (aCons (fC (.int 6)) (aCons (fTup (aCons (fC (.int 1)) (aCons (fUn oNeg (fC (.int 2))) aNil))) (aCons (fC (.str "('other', -1)")) aNil)))) aNil))))))
  (sSeq (sAsg 8 (fOp oAddL (fVar 8) (fLst (aCons (fTup (aCons (fC (.int 7)) (aCons (fTup (aCons (fC (.int 0)) (aCons (fC (.int 3)) aNil))) (aCons (fC (.str "('one', -1)")) aNil)))) (aCons (fTup (aCons (fC (.int 7)) (aCons (fTup (aCons (fC (.int 0)) (aCons (fC (.int 1)) aNil))) (aCons (fC (.str "let")) aNil)))) (aCons (fTup (aCons (fC (.int 7)) (aCons (fTup (aCons (fC (.bool true)) (aCons (fC (.int 1)) aNil))) (aCons (fC (.str "('one', -1)")) aNil)))) aNil))))))
  (sFrz 8 (sSeq (sFor (iAny (fVar 8)) (asgN 9) (sSeq (sAsg 10 (fOp oIx (fVar 9) (fC (.int 2))))
  (sSeq (sIf (fAnd (fOp oEqS (fOp oIx (fVar 9) (fC (.int 0))) (fC (.int 4))) (fOp oEqS (fOp oIx (fVar 9) (fC (.int 1))) (fTup aNil))) (sAsg 10 (fC (.str "('sizes', -1)"))) sNil)
  (sIf (fOp oNeS (fCall 4 (v__law_refused C_NotUsable) (aCons (fOp oIx (fVar 9) (fC (.int 0))) (aCons (fVar 1) (aCons (fOp oIx (fVar 9) (fC (.int 1))) (aCons (fTup (aCons (fVar 3) aNil)) aNil))))) (fVar 10)) (sRet (fC (.bool false))) sNil))))
  (sRet (fC (.bool true)))))))))))))))))))
def v__law_ends_hold (C_NotUsable : Addr) : List SV → SrcG → Out SrcG := runS [("_law_source" : Str), ("_law_sizes_here" : Str), ("_law_n" : Str), ("_law_spot" : Str), ("_law_last" : Str), ("_law_over" : Str), ("_law_ways" : Str), ("_law_size" : Str), ("_law_asks" : Str), ("_law_each" : Str), ("_law_due" : Str), ("_law_k" : Str)] (p__law_ends_hold C_NotUsable)
theorem f__law_ends_hold (B : Bk mg) (e_NotUsable : Ex2 P w K mg base "NotUsable" C_NotUsable "word" "at") (c__law_draw : DfnS True P w K mg base Fm 1 "_law_draw" 2 (v__law_draw C_NotUsable)) (c__law_refused : Dfn True P w K mg base 9 "_law_refused" 4 (v__law_refused C_NotUsable)) {f : Addr} {fd : FuncData} (F : Fun K "_law_ends_hold" "_law_ends_hold" s__law_ends_hold f fd) : FnG True P w K mg base 10 f fd [("_law_source" : Str), ("_law_sizes_here" : Str)] (spS Fm K 2 (v__law_ends_hold C_NotUsable)) := fnS F sc__law_ends_hold fun cdv A outer s H D E i hr tk hp hG => by
  have nd := sc__law_ends_hold.nd
  have hI : Fm i = Fm i := rfl
  exact (dscons (dset 2 nd (dcb call_len kLen B.len (by decide +kernel) (dacons (dvar 1) danil)))
  (dscons (dset 3 nd (dcallDS hI tk hG c__law_draw (hr.mono (by omega)) (dacons (dvar 0) (dacons (dvar 2) danil))))
  (dscons (dset 4 nd (dct call_tuple_of kTuple B.tuple (by decide +kernel) (dacons (dlc0 (own := [("_law_size", 7)]) rfl nd (diany (dvar 1)) (blkOk_by (by rfl)) (fun _ _ _ _ _ => (dgN 7 nd)) (tgN 7) (towN (by decide)) (fun _ _ _ _ _ => (dop op_sub kSub (dvar 7) dint))) danil)))
  (dscons (dset 5 nd (dct call_tuple_of kTuple B.tuple (by decide +kernel) (dacons (dlc0 (own := [("_law_k", 11)]) rfl nd (dirng1 rfl B.range (dacons (dvar 2) danil)) (blkOk_by (by rfl)) (fun _ _ _ _ _ => (dgN 11 nd)) (tgN 11) (towN (by decide)) (fun _ _ _ _ _ => (dop op_sub kSub (dix ix_seq kIx (dvar 1) (dvar 11)) (dct call_int1 kInt B.int (by decide +kernel) (dacons (dcmp (op_neS (hu64 hr)) kNeS (dvar 11) (dvar 3)) danil))))) danil)))
  (dscons (dset 6 nd dint)
  (dscons (dfor hp rfl (diany (dvar 1)) (dgN 7 nd) (tgN 7) (dsone (dset 6 nd (dop op_mulW kMul (dvar 6) (dvar 7)))))
  (dscons (dset 8 nd (dlst (dacons (dtup (dacons dint (dacons (dvar 6) (dacons dstr danil)))) (dacons (dtup (dacons dint (dacons (dun un_neg kNeg dint) (dacons dstr danil)))) (dacons (dtup (dacons dint (dacons (dop op_sub kSub (dvar 6) dint) (dacons dstr danil)))) (dacons (dtup (dacons dint (dacons dbl (dacons dstr danil)))) danil))))))
  (dscons (dset 8 nd (dop op_addL kAddL (dvar 8) (dlst (dacons (dtup (dacons dint (dacons (dvar 5) (dacons dstr danil)))) (dacons (dtup (dacons dint (dacons (dvar 4) (dacons dstr danil)))) (dacons (dtup (dacons dint (dacons (dfrz (dct call_list_of kList B.list (by decide +kernel) (dacons (dvar 4) danil))) (dacons dstr danil)))) danil))))))
  (dscons (dset 8 nd (dop op_addL kAddL (dvar 8) (dlst (dacons (dtup (dacons dint (dacons (dvar 5) (dacons dstr danil)))) (dacons (dtup (dacons dint (dacons (dvar 4) (dacons dstr danil)))) (dacons (dtup (dacons dint (dacons (dtup (dacons (dix ix_seq kIx (dvar 4) (dvar 3)) danil)) (dacons dstr danil)))) danil))))))
  (dscons (dset 8 nd (dop op_addL kAddL (dvar 8) (dlst (dacons (dtup (dacons dint (dacons (dtup (dacons (dix ix_seq kIx (dvar 5) (dvar 3)) danil)) (dacons dstr danil)))) (dacons (dtup (dacons dint (dacons (dtup (dacons dint (dacons dint danil))) (dacons dstr danil)))) (dacons (dtup (dacons dint (dacons (dtup danil) (dacons dstr danil)))) danil))))))
  (dscons (dset 8 nd (dop op_addL kAddL (dvar 8) (dlst (dacons (dtup (dacons dint (dacons (dfrz (dlst (dacons dint danil))) (dacons dstr danil)))) (dacons (dtup (dacons dint (dacons (dtup (dacons dbl danil)) (dacons dstr danil)))) (dacons (dtup (dacons dint (dacons (dsl01 sl_TL kSl (dvar 1) (dvar 3)) (dacons dstr danil)))) danil))))))
  (dscons (dset 8 nd (dop op_addL kAddL (dvar 8) (dlst (dacons (dtup (dacons dint (dacons (dop op_addAll kAdd (dsl01 sl_TL kSl (dvar 1) (dvar 3)) (dtup (dacons dint danil))) (dacons dstr danil)))) (dacons (dtup (dacons dint (dacons dint (dacons dstr danil)))) (dacons (dtup (dacons dint (dacons dnon (dacons dstr danil)))) danil))))))
  (dscons (dset 8 nd (dop op_addL kAddL (dvar 8) (dlst (dacons (dtup (dacons dint (dacons (dtup (dacons dint (dacons dint danil))) (dacons dstr danil)))) (dacons (dtup (dacons dint (dacons (dtup (dacons dint (dacons dint danil))) (dacons dstr danil)))) (dacons (dtup (dacons dint (dacons (dtup (dacons dint (dacons (dun un_neg kNeg dint) danil))) (dacons dstr danil)))) danil))))))
  (dscons (dset 8 nd (dop op_addL kAddL (dvar 8) (dlst (dacons (dtup (dacons dint (dacons (dtup (dacons dint (dacons dint danil))) (dacons dstr danil)))) (dacons (dtup (dacons dint (dacons (dtup (dacons dint (dacons dint danil))) (dacons dstr danil)))) (dacons (dtup (dacons dint (dacons (dtup (dacons dbl (dacons dint danil))) (dacons dstr danil)))) danil))))))
  (dsfrz 8 (dscons (dfor hp rfl (diany (dvar 8)) (dgN 9 nd) (tgN 9) (dscons (dset 10 nd (dix ix_seq kIx (dvar 9) dint))
  (dscons (dif_ (dtw (dwand (dtcmp (op_eqS (hu64 hr)) kEqS (dix ix_seq kIx (dvar 9) dint) dint) (dwand1 (dtcmp (op_eqS (hu64 hr)) kEqS (dix ix_seq kIx (dvar 9) dint) (dtup danil))))) (dsone (dset 10 nd dstr)) dsnil)
  (dsone (dif_ (dtcmp (op_neS (hu64 hr)) kNeS (dcallD tk hG c__law_refused (hr.mono (by omega)) (dacons (dix ix_seq kIx (dvar 9) dint) (dacons (dvar 1) (dacons (dix ix_seq kIx (dvar 9) dint) (dacons (dtup (dacons (dvar 3) danil)) danil))))) (dvar 10)) (dsone (dret dbl)) dsnil)))))
  (dsone (dret dbl))))))))))))))))))
end
end K1

set_option Elab.async false
set_option linter.all false
set_option autoImplicit false
set_option maxRecDepth 100000
set_option maxHeartbeats 4000000
namespace K1
open PySem PySem.Spec PyProof.Rows L2 Dn
theorem if_pos_of {c : Bool} {A B : Prop} (hc : c = true) (h : A) : if c = true then A else B := by rw [if_pos hc]; exact h
theorem if_neg_of {c : Bool} {A B : Prop} (hc : c = false) (h : B) : if c = true then A else B := by rw [hc, if_neg Bool.false_ne_true]; exact h
theorem ixN_at {n j : Nat} (h : j < n) : ixN n (j : Int) = some j := by
  unfold ixN
  rw [if_pos (by omega), if_pos (by omega)]
  rfl
section
variable {gd : Prop} {P : Program} {w : World} {K : PySem.W.Frag} {mg : Str → Option Value} {base : Heap} {C_NotUsable : Addr}
abbrev s__law_draw : Stmt := top 37
theorem sc__law_draw : FnScope [("_law_source" : Str), ("_law_top" : Str), ("_law_cells" : Str), ("_law_turn" : Str), ("_law_at" : Str), ("_law_cell" : Str), ("_law_once" : Str), ("_law_twice" : Str)] [("_law_source" : Str), ("_law_top" : Str)] (defScope s__law_draw) := ⟨rfl, rfl, rfl, by decide +kernel, rfl, by decide +kernel, by decide +kernel⟩
theorem f__law_draw (B : Bk mg) {f : Addr} {fd : FuncData} (F : Fun K "_law_draw" "_law_draw" s__law_draw f fd) : FnG gd P w K mg base 1 f fd [("_law_source" : Str), ("_law_top" : Str)] (spS Fm K 2 (v__law_draw C_NotUsable)) := by
  refine fnG_of F sc__law_draw (fun vs H Q E h => h.1) fun cdv A outer s H vs Q E hG hr h => ⟨_, pss_cons (ps_dput (hu_of hr) (pv 0) pe_str (pe_op op_add (pe_dget (hu_of hr) (pv 0) pe_str (fun _ _ => rfl)) pe_int) rfl)
    (pss_cons (ps_set (i := 2) sc__law_draw.nd rfl (Or.inl rfl) (pe_dget (hu_of hr) (pv 0) pe_str (fun _ _ => rfl)))
    (pss_cons (ps_if (pt_cmpR op_eq (pe_callB call_len (by rfl) B.len (by decide +kernel) (pa_cons (pv 2) pa_nil)) pe_int rfl) (pss_one (ps_ret pe_int)) pss_nil)
    (pss_cons (ps_set (i := 3) sc__law_draw.nd rfl (Or.inl rfl) (pe_dget (hu_of hr) (pv 0) pe_str (fun _ _ => rfl)))
    (pss_cons (ps_set (i := 4) sc__law_draw.nd rfl (Or.inl rfl) (pe_op op_mod (pe_callTy call_int1 (by rfl) B.int (by decide +kernel) (pa_cons (pe_op op_add (pv 3) pe_int) pa_nil)) (pe_callB call_len (by rfl) B.len (by decide +kernel) (pa_cons (pv 2) pa_nil))))
    (pss_cons (ps_set (i := 5) sc__law_draw.nd rfl (Or.inl rfl) (pe_ix ix_list (pv 2) (pv 4) (fun _ _ => rfl)))
    (pss_cons (ps_if (pt_cmpR op_ge (pv 5) pe_int rfl) (pss_cons (ps_asg (pe_op op_fdiv (pv 5) (pv 1)) (pg_sub (pv 2) (pv 4) set_list (by intro _; rfl)) rfl rfl rfl) (pss_one (ps_ret (pe_op op_mod (pe_callTy call_int1 (by rfl) B.int (by decide +kernel) (pa_cons (pv 5) pa_nil)) (pv 1))))) pss_nil)
    (pss_cons (ps_set (i := 6) sc__law_draw.nd rfl (Or.inl rfl) (pe_op op_mod (pe_callTy call_int1 (by rfl) B.int (by decide +kernel) (pa_cons (pe_op op_add (pe_op op_mul (pv 5) pe_int) (pe_op op_mul (pv 3) pe_int)) pa_nil)) pe_int))
    (pss_cons (ps_set (i := 7) sc__law_draw.nd rfl (Or.inl rfl) (pe_op op_mod (pe_callTy call_int1 (by rfl) B.int (by decide +kernel) (pa_cons (pe_op op_add (pe_op op_add (pe_op op_mul (pv 6) (pv 6)) (pe_op op_mul pe_int (pv 5))) (pv 3)) pa_nil)) pe_int))
    (pss_one (ps_ret (pe_op op_mod (pe_callTy call_int1 (by rfl) B.int (by decide +kernel) (pa_cons (pe_op op_fdiv (pv 7) pe_int) pa_nil)) (pv 1)))))))))))), ?_⟩
  obtain ⟨hl, t, D, ys, g, sd, hfd, hR, ha, ok, q⟩ := h
  unfold v__law_draw at q
  split at q
  · rename_i ys tp
    split at q
    · rename_i hcon
      obtain ⟨T, cells⟩ := g
      obtain ⟨hRp, hRc⟩ := hR
      match vs, ha with
      | [_, _], .cons h1 (.cons h2 .nil) =>
        cases h1
        cases h2
        have fin : ∀ (z : Int) (cl : List Int) (H' : Hp), drawF (T, cells) tp = (z, (T + 1, cl)) → (∀ a, a ≠ t.p → a ≠ t.c → H' a = H a) → H' t.p = some (.dK [(.inr "cells", .ref t.c), (.inr "turn", .int (T + 1))]) → H' t.c = some (.lst (cl.map V.int)) → Q (.int z) H' := by
          intro z cl H' e k kp kc
          rw [e] at q
          refine q (.int z) H' D ⟨fun a o n h => ?_, fun a h => ?_, fun _ _ h => h, fun a _ h => h⟩ (fun a o h => ?_) ⟨kp, kc⟩ (Dp.int _)
          · rw [k a (fun z => n (.inl z)) (fun z => n (.inr z))]; exact h
          · by_cases e1 : a = t.p
            · rw [e1, kp]; exact fun z => nomatch z
            · by_cases e2 : a = t.c
              · rw [e2, kc]; exact fun z => nomatch z
              · rw [k a e1 e2]; exact h
          · rw [k a (fun z => by rw [hfd a (.inl z)] at h; cases h) (fun z => by rw [hfd a (.inr z)] at h; cases h)]; exact sd a o h
        refine ⟨_, rfl, t.p, _, rfl, .inl ⟨_, (.inr "turn"), .inl hRp, rfl, rfl⟩, _, _, rfl, rfl, _, rfl, t.p, upd H t.p (.dK [(.inr "cells", .ref t.c), (.inr "turn", .int (T + 1))]), rfl, .inl ⟨_, (.inr "turn"), hRp, rfl, (show 2 < sizeLine by decide), rfl⟩, ?_⟩
        generalize hH1 : upd H t.p (.dK [(.inr "cells", .ref t.c), (.inr "turn", .int (T + 1))]) = H1
        have p1 : H1 t.p = some (.dK [(.inr "cells", .ref t.c), (.inr "turn", .int (T + 1))]) := by rw [← hH1]; exact upd_same
        have c1 : H1 t.c = some (.lst (cells.map V.int)) := by rw [← hH1, upd_ne (Ne.symm t.ne)]; exact hRc
        have k1 : ∀ a, a ≠ t.p → H1 a = H a := fun a h => by rw [← hH1, upd_ne h]
        refine ⟨_, rfl, t.p, _, rfl, .inl ⟨_, (.inr "cells"), .inl p1, rfl, rfl⟩, ?_⟩
        refine ⟨_, rfl, _, _, rfl, .inl ⟨_, SqL.of c1, rfl⟩, rfl, _, rfl, ?_⟩
        have hd : decide (V.int ((cells.map V.int).length : Int) = V.int 0) = decide (cells = []) := by
          rw [decide_eq_decide]
          constructor
          · intro e
            injection e with e
            have : (cells.map V.int).length = 0 := by omega
            rw [List.length_map] at this
            exact List.eq_nil_of_length_eq_zero this
          · intro e; rw [e]; rfl
        rw [hd]
        by_cases hc : cells = []
        · refine if_pos_of (decide_eq_true hc) ?_
          refine fin 0 cells H1 ?_ (fun a e1 e2 => k1 a e1) p1 c1
          unfold drawF
          simp only [if_pos hc]
        · refine if_neg_of (decide_eq_false hc) ?_
          have hn : (0 : Int) < (cells.map V.int).length := by
            rw [List.length_map]
            have : cells.length ≠ 0 := fun z => hc (List.eq_nil_of_length_eq_zero z)
            omega
          obtain ⟨c0, c1', _, _⟩ : 0 < tp ∧ tp < 1073741824 ∧ 0 < cells.length ∧ cells.length ≤ 63 := by
            rcases hcon with z | z
            · exact z
            · exact absurd z hc
          refine ⟨_, rfl, t.p, _, rfl, .inl ⟨_, (.inr "turn"), .inl p1, rfl, rfl⟩, ?_⟩
          refine ⟨_, rfl, _, _, rfl, rfl, .inl ⟨_, rfl, _, rfl, _, _, rfl, .inl ⟨_, SqL.of c1, rfl⟩, _, _, rfl, rfl, hn, ?_⟩⟩
          obtain ⟨i, hi⟩ : ∃ i, (T + 1 + 2) % ((cells.map V.int).length : Int) = i := ⟨_, rfl⟩
          have hi2 := hi
          rw [List.length_map] at hn hi
          have i0 : 0 ≤ i := by rw [← hi]; exact Int.emod_nonneg _ (by omega)
          have i1 : i < cells.length := by rw [← hi]; exact Int.emod_lt_of_pos _ (by omega)
          obtain ⟨j, rfl⟩ : ∃ j : Nat, i = j := ⟨i.toNat, by omega⟩
          have hj : j < cells.length := by omega
          have ej : (cells.map V.int)[j]? = some (.int (cells.getD j 0)) := by simp [hj]
          have di : ((T + 1 + 2) % (cells.length : Int)).toNat = j := by rw [hi]; rfl
          refine ⟨_, rfl, _, rfl, _, _, _, _, rfl, rfl, SqL.of c1, (by rw [hi2]; exact atI_nat ej), ?_⟩
          refine ⟨_, rfl, _, _, rfl, rfl, _, rfl, ?_⟩
          generalize hce : cells.getD j 0 = cell
          by_cases big : 1000000000000000000 ≤ cell
          · refine if_pos_of (decide_eq_true big) ?_
            refine ⟨_, rfl, _, rfl, _, _, rfl, rfl, ⟨c0, c1'⟩, ?_⟩
            refine ⟨_, rfl, _, rfl, _, _, _, _, rfl, rfl, c1, (by rw [hi2]; exact ixN_at (by rw [List.length_map]; exact hj)), ?_⟩
            refine ⟨_, rfl, .inl ⟨_, rfl, ?_⟩⟩
            refine ⟨_, rfl, _, _, rfl, rfl, c0, ?_⟩
            refine fin _ (cells.set j (cell / tp)) _ ?_ (fun a e1 e2 => by rw [upd_ne e2]; exact k1 a e1) (by rw [upd_ne t.ne]; exact p1) ?_
            · unfold drawF
              simp only [if_neg hc, di, hce, if_pos big]
            · rw [List.map_set]; exact upd_same
          · refine if_neg_of (decide_eq_false big) ?_
            refine ⟨_, rfl, _, _, rfl, rfl, .inr (by decide), _, rfl, _, _, rfl, rfl, .inr (by decide), _, _, rfl, rfl, .inl ⟨_, rfl, _, _, rfl, rfl, (show (0 : Int) < 999983 by decide), ?_⟩⟩
            have o0 : 0 ≤ (cell * 6091 + (T + 1) * 130363) % 999983 := Int.emod_nonneg _ (by decide)
            have o1 : (cell * 6091 + (T + 1) * 130363) % 999983 < 999983 := Int.emod_lt_of_pos _ (by decide)
            refine ⟨_, rfl, _, rfl, _, _, rfl, rfl, .inl ?_, _, rfl, _, _, rfl, rfl, .inl (by decide), _, _, rfl, rfl, _, rfl, _, _, rfl, rfl, .inl ⟨_, rfl, _, _, rfl, rfl, (show (0 : Int) < 32452843 by decide), ?_⟩⟩
            · exact ⟨by omega, by omega⟩
            refine ⟨_, rfl, _, _, rfl, rfl, ⟨by decide, by decide⟩, .inl ⟨_, rfl, _, rfl, _, _, rfl, rfl, c0, ?_⟩⟩
            refine fin _ cells _ ?_ (fun a e1 e2 => k1 a e1) p1 c1
            unfold drawF
            simp only [if_neg hc, di, hce, if_neg big]
    · exact q.elim
  · exact q.elim
end
end K1

set_option Elab.async false
set_option linter.all false
set_option autoImplicit false
set_option maxRecDepth 100000
set_option maxHeartbeats 1000000
/-! what a reading gives, step by step -/
namespace Dn
open PySem PySem.Spec PyProof.Rows L2
section
variable {γ : Type} {ρ ρ' ρ1 : Env} {g g1 g2 g3 g4 : γ} {a b c d φ ψ τ cond elt : Fn γ} {x y z u : SV} {p q : Bool} {F : SV → SV → Option SV} {F1 : SV → Option SV} {FC : List SV → Option SV} {asg : Asg} {body ψ1 ψ2 : SFn γ} {Ι : FnI γ} {own : List Nat} {i : Nat} {o : SOut γ}
theorem w_var {x : PyData} (h : ρ[i]? = some (some (.d x)) := by rfl) : (fVar i : Fn γ) ρ g = .ok (.d x) g := by unfold fVar; rw [h]
theorem w_varL {xs : List PyData} (h : ρ[i]? = some (some (.l xs)) := by rfl) : (fVar i : Fn γ) ρ g = .ok (.b xs) g := by unfold fVar; rw [h]
theorem w_varH (h : ρ[i]? = some (some .h) := by rfl) : (fVar i : Fn γ) ρ g = .ok .h g := by unfold fVar; rw [h]
theorem w_c {x : PyData} : (fC x : Fn γ) ρ g = .ok (.d x) g := rfl
theorem w_op (ha : a ρ g = .ok x g1) (hb : b ρ g1 = .ok y g2) (h : F x y = some z) : fOp F a b ρ g = .ok z g2 := by
  unfold fOp
  rw [ha]
  show (b ρ g1).bind _ = _
  rw [hb]
  show Out.of (F x y) g2 = _
  rw [h]
  rfl
theorem w_un (ha : a ρ g = .ok x g1) (h : F1 x = some z) : fUn F1 a ρ g = .ok z g1 := by
  unfold fUn
  rw [ha]
  show Out.of (F1 x) g1 = _
  rw [h]
  rfl
/-- argument lists -/
theorem w_nil : (aNil : FnA γ) ρ g = .ok [] g := rfl
theorem w_cons {Φ : FnA γ} {ys : List SV} (ha : a ρ g = .ok x g1) (h : Φ ρ g1 = .ok ys g2) : aCons a Φ ρ g = .ok (x :: ys) g2 := by
  unfold aCons
  rw [ha]
  show (Φ ρ g1).bindA _ = _
  rw [h]
  rfl
theorem w_cb {Φ : FnA γ} {ys : List SV} (h : Φ ρ g = .ok ys g1) (hf : FC ys = some z) : fCB FC Φ ρ g = .ok z g1 := by
  unfold fCB
  rw [h]
  show Out.of (FC ys) g1 = _
  rw [hf]
  rfl
theorem w_and (ha : a ρ g = .ok (.d (.bool p)) g1) (hb : p = true → b ρ g1 = .ok (.d (.bool q)) g1) : fAnd a b ρ g = .ok (.d (.bool (p && q))) g1 := by
  unfold fAnd
  rw [ha]
  cases p with
  | true => exact hb rfl
  | false => rfl
theorem w_and2 (ha : a ρ g = .ok (.d (.bool true)) g1) (hb : b ρ g1 = .ok z g2) : fAnd a b ρ g = .ok z g2 := by
  unfold fAnd
  rw [ha]
  exact hb
theorem w_or (ha : a ρ g = .ok (.d (.bool p)) g1) (hb : p = false → b ρ g1 = .ok (.d (.bool q)) g1) : fOr a b ρ g = .ok (.d (.bool (p || q))) g1 := by
  unfold fOr
  rw [ha]
  cases p with
  | false => exact hb rfl
  | true => rfl
theorem w_not (ha : a ρ g = .ok (.d (.bool p)) g1) : fNot a ρ g = .ok (.d (.bool (!p))) g1 := by
  unfold fNot
  rw [ha]
  rfl
theorem w_isi {T : String} {k : PyData} (ha : a ρ g = .ok x g1) (hd : toD x = some k) (h : isi T k = some p) : fIsi T a ρ g = .ok (.d (.bool p)) g1 := by
  unfold fIsi
  rw [ha]
  show (match toD x with | some d => _ | none => _) = _
  rw [hd]
  show (match isi T k with | some b => _ | none => _) = _
  rw [h]
theorem w_tup {Φ : FnA γ} {ys : List SV} {ds : List PyData} (h : Φ ρ g = .ok ys g1) (e : allD ys = some ds) (hl : ds.length ≤ 1000) : fTup Φ ρ g = .ok (.d (.tuple ds)) g1 := by
  unfold fTup
  rw [h]
  show (match allD ys with | some ds => _ | none => _) = _
  rw [e]
  exact if_pos hl
theorem w_lst {Φ : FnA γ} {ys : List SV} {ds : List PyData} (h : Φ ρ g = .ok ys g1) (e : allD ys = some ds) (hl : ds.length ≤ 1000) : fLst Φ ρ g = .ok (.l ds) g1 := by
  unfold fLst
  rw [h]
  show (match allD ys with | some ds => _ | none => _) = _
  rw [e]
  exact if_pos hl
theorem w_frzL {xs : List PyData} (h : a ρ g = .ok (.l xs) g1) : fFrz a ρ g = .ok (.d (.list xs)) g1 := by unfold fFrz; rw [h]; rfl
theorem w_frzD {k : PyData} (h : a ρ g = .ok (.d k) g1) : fFrz a ρ g = .ok (.d k) g1 := by unfold fFrz; rw [h]; rfl
theorem w_rev (h : a ρ g = .ok x g1) (e : oRevA x = some z) : fRevA a ρ g = .ok z g1 := by
  unfold fRevA
  rw [h]
  show Out.of (oRevA x) g1 = _
  rw [e]
  rfl
/-- calls -/
theorem w_call {n : Nat} {f : List PyData → Out Unit} {Φ : FnA γ} {ys : List SV} {ds : List PyData} {k : PyData} (h : Φ ρ g = .ok ys g1) (e : allD ys = some ds) (hn : ds.length = n) (hf : f ds = .ok (.d k) ()) : fCall n f Φ ρ g = .ok (.d k) g1 := by
  unfold fCall
  rw [h]
  show (match allD ys with | some ds => _ | none => _) = _
  rw [e]
  show (if ds.length = n then liftO (f ds) g1 else .stuck) = _
  rw [if_pos hn, hf]
  rfl
theorem w_callL {n : Nat} {f : List PyData → Out Unit} {Φ : FnA γ} {ys : List SV} {ds xs : List PyData} (h : Φ ρ g = .ok ys g1) (e : allD ys = some ds) (hn : ds.length = n) (hf : f ds = .ok (.l xs) ()) : fCall n f Φ ρ g = .ok (.l xs) g1 := by
  unfold fCall
  rw [h]
  show (match allD ys with | some ds => _ | none => _) = _
  rw [e]
  show (if ds.length = n then liftO (f ds) g1 else .stuck) = _
  rw [if_pos hn, hf]
  rfl
theorem w_callX {n : Nat} {f : List PyData → Out Unit} {Φ : FnA γ} {ys : List SV} {ds : List PyData} {C : Addr} {fs : List (Str × PyData)} (h : Φ ρ g = .ok ys g1) (e : allD ys = some ds) (hn : ds.length = n) (hf : f ds = .exc C fs ()) : fCall n f Φ ρ g = .exc C fs g1 := by
  unfold fCall
  rw [h]
  show (match allD ys with | some ds => _ | none => _) = _
  rw [e]
  show (if ds.length = n then liftO (f ds) g1 else .stuck) = _
  rw [if_pos hn, hf]
  rfl
theorem w_callS {n : Nat} {f : List SV → γ → Out γ} {Φ : FnA γ} {ys : List SV} (h : Φ ρ g = .ok ys g1) (hn : ys.length = n) (ho : ys.all argOk = true) (hf : f ys g1 = .ok z g2) (hz : ∀ xs, z ≠ .b xs := by exact fun _ z => nomatch z) : fCallS n f Φ ρ g = .ok z g2 := by
  unfold fCallS
  rw [h]
  show (if ys.length = n ∧ ys.all argOk = true then _ else _) = _
  rw [if_pos ⟨hn, ho⟩, hf]
  cases z with
  | b xs => exact absurd rfl (hz xs)
  | _ => rfl
theorem w_listG {C0 : Addr} {n : Nat} {f : List PyData → OutI Unit} {Φ : FnA γ} {ys : List SV} {ds xs : List PyData} {u : Unit} (h : Φ ρ g = .ok ys g1) (e : allD ys = some ds) (hn : ds.length = n) (hf : f ds = .ok xs u) : fListG C0 n f Φ ρ g = .ok (.l xs) g1 := by
  unfold fListG
  rw [h]
  show (match allD ys with | some ds => _ | none => _) = _
  rw [e]
  show (if ds.length = n then liftL C0 (f ds) g1 else .stuck) = _
  rw [if_pos hn, hf]
  rfl
theorem w_listGX {C0 : Addr} {n : Nat} {f : List PyData → OutI Unit} {Φ : FnA γ} {ys : List SV} {ds : List PyData} {fs : List (Str × PyData)} {u : Unit} (h : Φ ρ g = .ok ys g1) (e : allD ys = some ds) (hn : ds.length = n) (hf : f ds = .exc C0 fs u) : fListG C0 n f Φ ρ g = .exc C0 fs g1 := by
  unfold fListG
  rw [h]
  show (match allD ys with | some ds => _ | none => _) = _
  rw [e]
  show (if ds.length = n then liftL C0 (f ds) g1 else .stuck) = _
  rw [if_pos hn, hf]
  exact if_pos rfl
/-! ### comprehensions -/
theorem lcD_mapM {α : Type} (inj f : α → PyData) : ∀ (xs : List α), (∀ x ∈ xs, ∃ ρ1, asg (inj x) ρ = some ρ1 ∧ cond ρ1 g = .ok (.d (.bool true)) g ∧ elt ρ1 g = .ok (.d (f x)) g) → lcD asg cond elt ρ (xs.map inj) g = some (xs.map f, g)
  | [], _ => rfl
  | x :: r, h => by
    obtain ⟨ρ1, e1, e2, e3⟩ := h x List.mem_cons_self
    rw [List.map_cons]
    unfold lcD
    rw [e1]
    simp only [e2, e3]
    rw [lcD_mapM inj f r fun y hy => h y (List.mem_cons_of_mem _ hy)]
    rfl
theorem w_lc {α : Type} (xs : List α) (inj f : α → PyData) (hi : Ι ρ g = .ok (xs.map inj) g) (hl : xs.length ≤ 100000) (h : ∀ x ∈ xs, ∃ ρ1, asg (inj x) (wipeE ρ own) = some ρ1 ∧ elt ρ1 g = .ok (.d (f x)) g) :
    fLc own Ι asg fYes elt ρ g = .ok (.l (xs.map f)) g := by
  unfold fLc
  rw [hi]
  show (if (xs.map inj).length ≤ 100000 then _ else _) = _
  rw [List.length_map, if_pos hl, lcD_mapM inj f xs fun x hx => by
    obtain ⟨ρ1, e1, e2⟩ := h x hx
    exact ⟨ρ1, e1, rfl, e2⟩]
/-! ### what is walked -/
theorem w_any {xs : List PyData} (h : a ρ g = .ok (.d (.tuple xs)) g1) : iAny a ρ g = .ok xs g1 := by unfold iAny; rw [h]; rfl
theorem w_anyL {xs : List PyData} (h : a ρ g = .ok (.d (.list xs)) g1) : iAny a ρ g = .ok xs g1 := by unfold iAny; rw [h]; rfl
theorem p62 : (1000000 : Int) < 2 ^ 62 := by decide +kernel
theorem p62b : (2000000 : Int) < 2 ^ 62 := by decide +kernel
theorem n62 : -(2 ^ 62) ≤ (-1000000 : Int) := by decide +kernel
theorem rng_ok1 (j : Int) (h0 : -(2 ^ 62) ≤ j ∧ j < 2 ^ 62) {Φ : FnA γ} (h : Φ ρ g = .ok [.d (.int j)] g1) : iRng1F Φ ρ g = .ok ((List.range j.toNat).map fun k => .int (0 + (k : Nat))) g1 := by
  unfold iRng1F
  rw [h]
  exact if_pos h0
theorem rng_ok2 (i j : Int) (h0 : -(2 ^ 62) ≤ i ∧ i < 2 ^ 62 ∧ -(2 ^ 62) ≤ j ∧ j < 2 ^ 62) {Φ : FnA γ} (h : Φ ρ g = .ok [.d (.int i), .d (.int j)] g1) : iRng2F Φ ρ g = .ok ((List.range (j - i).toNat).map fun k => .int (i + (k : Nat))) g1 := by
  unfold iRng2F
  rw [h]
  exact if_pos h0
theorem in62 {j : Int} (h1 : -1000000 ≤ j) (h2 : j ≤ 2000000) : -(2 ^ 62) ≤ j ∧ j < 2 ^ 62 := ⟨Int.le_trans n62 h1, Int.lt_of_le_of_lt h2 p62b⟩
theorem w_rng1 {Φ : FnA γ} {n : Nat} (h : Φ ρ g = .ok [.d (.int n)] g1) (hn : n < 1000000) : iRng1F Φ ρ g = .ok ((List.range n).map fun k : Nat => PyData.int k) g1 := by
  rw [rng_ok1 n (in62 (by omega) (by omega)) h]
  simp only [Int.toNat_natCast, Int.zero_add]
theorem w_rng2 {Φ : FnA γ} {m : Int} {n : Nat} {l : Int} (h : Φ ρ g = .ok [.d (.int m), .d (.int l)] g1) (e : l = m + n) (h0 : -1000000 < m) (h1 : m < 1000000) (hn : n < 1000000) : iRng2F Φ ρ g = .ok ((List.range n).map fun k : Nat => PyData.int (m + k)) g1 := by
  have c1 := in62 (j := m) (by omega) (by omega)
  have c2 := in62 (j := l) (by omega) (by omega)
  rw [rng_ok2 m l ⟨c1.1, c1.2, c2.1, c2.2⟩ h]
  have e2 : (l - m).toNat = n := by omega
  rw [e2]
theorem w_zip {Φ : FnA γ} {xs zs : List PyData} (h : Φ ρ g = .ok [.d (.tuple xs), .d (.tuple zs)] g1) : iZipF Φ ρ g = .ok ((xs.zip zs).map fun p => .tuple [p.1, p.2]) g1 := by unfold iZipF; rw [h]; rfl
/-! ### statements -/
theorem u_seq (h : ψ1 ρ g = .next ρ1 g1) : sSeq ψ1 ψ2 ρ g = ψ2 ρ1 g1 := by unfold sSeq; rw [h]
theorem u_seqR (h : ψ1 ρ g = .ret x g1) : sSeq ψ1 ψ2 ρ g = .ret x g1 := by unfold sSeq; rw [h]
theorem u_seqX {C : Addr} {fs : List (Str × PyData)} (h : ψ1 ρ g = .exc C fs ρ1 g1) : sSeq ψ1 ψ2 ρ g = .exc C fs ρ1 g1 := by unfold sSeq; rw [h]
theorem u_nil : (sNil : SFn γ) ρ g = .next ρ g := rfl
theorem u_set (ha : a ρ g = .ok x g1) (hi : decide (i < ρ.length) = true := by rfl) (hx : ∀ xs, x ≠ .b xs := by exact fun _ z => nomatch z) : sAsg i a ρ g = .next (ρ.set i (some x)) g1 := by
  have hi := of_decide_eq_true hi
  unfold sAsg
  rw [ha]
  cases x with
  | b xs => exact absurd rfl (hx xs)
  | _ => exact if_pos hi
theorem u_drop (ha : a ρ g = .ok x g1) : sDrop a ρ g = .next ρ g1 := by unfold sDrop; rw [ha]; rfl
theorem u_dropX {C : Addr} {fs : List (Str × PyData)} (ha : a ρ g = .exc C fs g1) : sDrop a ρ g = .exc C fs ρ g1 := by unfold sDrop; rw [ha]; rfl
theorem u_ret (ha : a ρ g = .ok x g1) (hx : ∀ xs, x ≠ .b xs := by exact fun _ z => nomatch z) : sRet a ρ g = .ret x g1 := by
  unfold sRet
  rw [ha]
  cases x with
  | b xs => exact absurd rfl (hx xs)
  | _ => rfl
theorem u_retX {C : Addr} {fs : List (Str × PyData)} (ha : a ρ g = .exc C fs g1) : sRet a ρ g = .exc C fs ρ g1 := by unfold sRet; rw [ha]; rfl
theorem u_retv (h : ρ[i]? = some (some x) := by rfl) (hx : ∀ xs, x ≠ .b xs := by exact fun _ z => nomatch z) : (sRetV i : SFn γ) ρ g = .ret x g := by
  unfold sRetV
  rw [h]
  cases x with
  | b xs => exact absurd rfl (hx xs)
  | _ => rfl
theorem u_if (hc : τ ρ g = .ok (.d (.bool p)) g1) : sIf τ ψ1 ψ2 ρ g = if p = true then ψ1 ρ g1 else ψ2 ρ g1 := by unfold sIf; rw [hc]; rfl
theorem u_ifT (hc : τ ρ g = .ok (.d (.bool true)) g1) : sIf τ ψ1 ψ2 ρ g = ψ1 ρ g1 := by rw [u_if hc]; rfl
theorem u_ifF (hc : τ ρ g = .ok (.d (.bool false)) g1) : sIf τ ψ1 ψ2 ρ g = ψ2 ρ g1 := by rw [u_if hc]; rfl
theorem u_for {ys : List PyData} (hi : Ι ρ g = .ok ys g1) : sFor Ι asg body ρ g = loopD asg body ys ρ g1 := by unfold sFor; rw [hi]; rfl
theorem u_app {xs : List PyData} {k : PyData} (h : ρ[i]? = some (some (.l xs))) (ha : a ρ g = .ok (.d k) g1) (hl : xs.length < 100000) : sApp i a ρ g = .next (ρ.set i (some (.l (xs ++ [k])))) g1 := by
  unfold sApp
  rw [h]
  show (a ρ g).bindS _ _ = _
  rw [ha]
  exact if_pos hl
theorem u_revs {xs : List PyData} (h : ρ[i]? = some (some (.l xs))) : (sRevS i : SFn γ) ρ g = .next (ρ.set i (some (.l xs.reverse))) g := by unfold sRevS; rw [h]
theorem u_seti {xs : List PyData} {k : PyData} {n : Int} {j : Nat} (ha : a ρ g = .ok (.d k) g1) (h : ρ[i]? = some (some (.l xs))) (hb : b ρ g1 = .ok (.d (.int n)) g2) (e : ixN xs.length n = some j) : sSetI i b a ρ g = .next (ρ.set i (some (.l (xs.set j k)))) g2 := by
  unfold sSetI
  rw [ha]
  show (match ρ[i]? with | some (some (.l xs)) => _ | _ => _) = _
  rw [h]
  show (b ρ g1).bindS _ _ = _
  rw [hb]
  show (match ixN xs.length n with | some j => _ | none => _) = _
  rw [e]
theorem u_unp {f : Asg} {k : PyData} (ha : a ρ g = .ok (.d k) g1) (h : f k ρ = some ρ1) : sUnp f a ρ g = .next ρ1 g1 := by
  unfold sUnp
  rw [ha]
  show (match f k ρ with | some ρ' => _ | none => _) = _
  rw [h]
/-- a for by a word about what is left -/
theorem loop_inv (R : List PyData → Env → γ → Prop) (hs : ∀ y rest ρ g, R (y :: rest) ρ g → ∃ ρ1 ρ2 g2, asg y ρ = some ρ1 ∧ body ρ1 g = .next ρ2 g2 ∧ R rest ρ2 g2) :
    ∀ ys ρ g, R ys ρ g → ∃ ρ' g', loopD asg body ys ρ g = .next ρ' g' ∧ R [] ρ' g'
  | [], ρ, g, h => ⟨ρ, g, rfl, h⟩
  | y :: ys, ρ, g, h => by
    obtain ⟨ρ1, ρ2, g2, e1, e2, h2⟩ := hs y ys ρ g h
    obtain ⟨ρ', g', e3, h3⟩ := loop_inv R hs ys ρ2 g2 h2
    refine ⟨ρ', g', ?_, h3⟩
    unfold loopD
    rw [e1]
    simp only [e2]
    exact e3
/-- the same over plain items -/
theorem loop_invM {α : Type} (inj : α → PyData) (R : List α → Env → γ → Prop) (hs : ∀ y rest ρ g, R (y :: rest) ρ g → ∃ ρ1 ρ2 g2, asg (inj y) ρ = some ρ1 ∧ body ρ1 g = .next ρ2 g2 ∧ R rest ρ2 g2) :
    ∀ ys ρ g, R ys ρ g → ∃ ρ' g', loopD asg body (ys.map inj) ρ g = .next ρ' g' ∧ R [] ρ' g'
  | [], ρ, g, h => ⟨ρ, g, rfl, h⟩
  | y :: ys, ρ, g, h => by
    obtain ⟨ρ1, ρ2, g2, e1, e2, h2⟩ := hs y ys ρ g h
    obtain ⟨ρ', g', e3, h3⟩ := loop_invM inj R hs ys ρ2 g2 h2
    refine ⟨ρ', g', ?_, h3⟩
    rw [List.map_cons]
    unfold loopD
    rw [e1]
    simp only [e2]
    exact e3
end
theorem bools_map {α : Type} (f : α → Bool) : ∀ (xs : List α), boolsOf (xs.map fun x => PyData.bool (f x)) = some (xs.map f)
  | [] => rfl
  | x :: r => by
    rw [List.map_cons, List.map_cons]
    show (boolsOf _).map _ = _
    rw [bools_map f r]
    rfl
theorem v_all {α : Type} (f : α → Bool) (xs : List α) : bAll [.l (xs.map fun x => PyData.bool (f x))] = some (.d (.bool (xs.all f))) := by
  show (boolsOf (xs.map fun x => PyData.bool (f x))).map (fun bs => SV.d (.bool (bs.all id))) = _
  rw [bools_map, Option.map_some, List.all_map]
  rfl
theorem isi_tt (xs : List PyData) : isi "tuple" (.tuple xs) = some true := by show kitB "tuple" "tuple" = _; decide +kernel
theorem isi_tl (xs : List PyData) : isi "tuple" (.list xs) = some false := by show kitB "list" "tuple" = _; decide +kernel
theorem isi_ti (z : Int) : isi "tuple" (.int z) = some false := by show kitB "int" "tuple" = _; decide +kernel
theorem isi_tb (z : Bool) : isi "tuple" (.bool z) = some false := by show kitB "bool" "tuple" = _; decide +kernel
theorem isi_tn : isi "tuple" .none = some false := by show kitB "NoneType" "tuple" = _; decide +kernel
theorem isi_ts (z : Str) : isi "tuple" (.str z) = some false := by show kitB "str" "tuple" = _; decide +kernel
theorem isi_td (z : List (PyData × PyData)) : isi "tuple" (.dict z) = some false := by show kitB "dict" "tuple" = _; decide +kernel
def tupB : PyData → Bool
  | .tuple _ => true
  | _ => false
theorem isi_tup (x : PyData) : isi "tuple" x = some (tupB x) := by
  cases x
  · exact isi_tn
  · exact isi_tb _
  · exact isi_ti _
  · exact isi_ts _
  · exact isi_tl _
  · exact isi_tt _
  · exact isi_td _
end Dn

set_option Elab.async false
set_option linter.all false
set_option autoImplicit false
set_option maxRecDepth 100000
set_option maxHeartbeats 1000000
namespace K1
open PySem PySem.Spec PyProof.Rows L2 Dn
variable {C : Addr}
abbrev okB (b : Bool) : Out Unit := .ok (.d (.bool b)) ()
abbrev okD (d : PyData) : Out Unit := .ok (.d d) ()
abbrev xc (C : Addr) (w : Str) : Out Unit := .exc C [("at", .int (-1)), ("word", .str w)] ()
def isI : PyData → Bool
  | .int _ => true
  | _ => false
theorem e_is_integer (x : PyData) : v_is_integer C [x] = okB (isI x) := by cases x <;> rfl
def atL (m : Int) : PyData → Bool
  | .int z => decide (m ≤ z)
  | _ => false
theorem e_is_number (x : PyData) : v_is_number C [x] = okB (atL 0 x) := by cases x <;> rfl
theorem e_is_many (x : PyData) : v_is_many C [x] = okB (atL 1 x) := by cases x <;> rfl
/-- an index of that many -/
def inR (m : Int) (x : PyData) : Bool := atL 0 x && (match x with | .int z => decide (z < m) | _ => false)
theorem run_ret {N : List Str} {φ : Fn Unit} {ds : List PyData} {y : SV} (h : φ (env0 N ds) () = .ok y ()) (hy : ∀ xs, y ≠ .b xs := by exact fun _ z => nomatch z) : runP N (sRet φ) ds = .ok y () := by
  unfold runP
  rw [u_ret h hy]
  rfl
theorem run_drop {N : List Str} {φ : Fn Unit} {ds : List PyData} {y : SV} (h : φ (env0 N ds) () = .ok y ()) : runP N (sDrop φ) ds = .ok (.d .none) () := by
  unfold runP
  rw [u_drop h]
  rfl
theorem run_dropX {N : List Str} {φ : Fn Unit} {ds : List PyData} {X : Addr} {fs : List (Str × PyData)} (h : φ (env0 N ds) () = .exc X fs ()) : runP N (sDrop φ) ds = .exc X fs () := by
  unfold runP
  rw [u_dropX h]
  rfl
theorem e_is_index (m : Int) (x : PyData) : v_is_index C [.int m, x] = okB (inR m x) := by
  refine run_ret (w_and (w_call (w_cons w_var w_nil) rfl rfl (e_is_number x)) fun h => ?_)
  cases x with
  | int z => exact w_op w_var w_var rfl
  | _ => cases h
def sizesB (x : PyData) : Bool := match x with
  | .tuple xs => decide (0 < xs.length) && xs.all (atL 1)
  | _ => false
theorem e_is_sizes (x : PyData) (hl : ∀ xs, x = .tuple xs → xs.length ≤ 100000) : v_is_sizes C [x] = okB (sizesB x) := by
  cases x with
  | tuple xs =>
    refine run_ret (w_and2 (w_isi w_var rfl (isi_tt xs)) ?_)
    refine w_and (p := decide (0 < xs.length)) (q := xs.all (atL 1)) (w_op (w_cb (w_cons w_var w_nil) rfl) w_c ?_) fun _ => ?_
    · show some (SV.d (.bool (decide ((0 : Int) < (xs.length : Int))))) = _
      congr 4
      exact propext ⟨fun h => by omega, fun h => by omega⟩
    · refine w_cb (w_cons (w_lc xs id (fun x => .bool (atL 1 x)) (by rw [List.map_id]; exact w_any w_var) (hl _ rfl) fun x hx => ⟨[some (.d (.tuple xs)), some (.d x)], rfl, ?_⟩) w_nil) (v_all _ _)
      exact w_call (w_cons w_var w_nil) rfl rfl (e_is_many x)
  | _ => rfl
theorem e_need (b : Bool) (w : Str) : v_need C [.bool b, .str w] = if b = true then okD .none else xc C w := by
  cases b <;> rfl
theorem e_need_sizes (x : PyData) (hl : ∀ xs, x = .tuple xs → xs.length ≤ 100000) : v_need_sizes C [x] = if sizesB x = true then okD .none else xc C "sizes" := by
  have e := e_need (C := C) (sizesB x) "sizes"
  have ha : (aCons (fCall 1 (v_is_sizes C) (aCons (fVar 0) aNil)) (aCons (fC (.str "sizes")) aNil) : FnA Unit) (env0 [("sizes" : Str)] [x]) () = .ok [.d (.bool (sizesB x)), .d (.str "sizes")] () :=
    w_cons (w_call (w_cons w_var w_nil) rfl rfl (e_is_sizes x hl)) (w_cons w_c w_nil)
  by_cases h : sizesB x = true
  · rw [if_pos h] at e ⊢
    exact run_drop (w_call ha rfl rfl e)
  · rw [if_neg h] at e ⊢
    exact run_dropX (w_callX ha rfl rfl e)
/-! settings -/
abbrev tI (ns : List Int) : PyData := .tuple (ns.map PyData.int)
def rightB (ns : List Int) (x : PyData) : Bool := match x with
  | .tuple cs => decide (cs.length = ns.length) && (ns.zip cs).all fun p => inR p.1 p.2
  | _ => false
theorem rightB_tup (ns : List Int) (cs : List PyData) : rightB ns (.tuple cs) = (decide (cs.length = ns.length) && (ns.zip cs).all fun p => inR p.1 p.2) := rfl
theorem zip_int (ns : List Int) (cs : List PyData) : (((ns.map PyData.int).zip cs).map fun p => PyData.tuple [p.1, p.2]) = (ns.zip cs).map fun p => PyData.tuple [.int p.1, p.2] := by
  rw [List.zip_map_left, List.map_map]
  rfl
theorem e_right_setting (ns : List Int) (x : PyData) (hl : ns.length ≤ 1000) : v_right_setting C [tI ns, x] = okB (rightB ns x) := by
  have tail : ∀ cs, x = .tuple cs → (fCB bAll (aCons (fLc [2, 3] (iZipF (aCons (fVar 0) (aCons (fVar 1) aNil))) (asgT 2 (asgCons (asgN 2) (asgCons (asgN 3) asgNil))) fYes (fCall 2 (v_is_index C) (aCons (fVar 2) (aCons (fVar 3) aNil)))) aNil) : Fn Unit)
      (env0 [("sizes" : Str), ("thing" : Str), ("size" : Str), ("choice" : Str)] [tI ns, x]) () = .ok (.d (.bool ((ns.zip cs).all fun p => inR p.1 p.2))) () := by
    rintro cs rfl
    refine w_cb (w_cons (w_lc (ns.zip cs) (fun p => .tuple [.int p.1, p.2]) (fun p => .bool (inR p.1 p.2)) ?_ ?_ fun p hp => ?_) w_nil) (v_all _ _)
    · rw [← zip_int]
      exact w_zip (w_cons w_var (w_cons w_var w_nil))
    · rw [List.length_zip]; omega
    · exact ⟨[some (.d (tI ns)), some (.d (.tuple cs)), some (.d (.int p.1)), some (.d p.2)], rfl, w_call (w_cons w_var (w_cons w_var w_nil)) rfl rfl (e_is_index p.1 p.2)⟩
  cases x with
  | tuple cs =>
    have hc : (fOr (fNot (fIsi "tuple" (fVar 1))) (fOp oNeS (fCB bLen (aCons (fVar 1) aNil)) (fCB bLen (aCons (fVar 0) aNil))) : Fn Unit) (env0 [("sizes" : Str), ("thing" : Str), ("size" : Str), ("choice" : Str)] [tI ns, .tuple cs]) () = .ok (.d (.bool (!decide (cs.length = ns.length)))) () := by
      have := w_or (γ := Unit) (ρ := env0 [("sizes" : Str), ("thing" : Str), ("size" : Str), ("choice" : Str)] [tI ns, .tuple cs]) (g := ()) (q := !decide (cs.length = ns.length)) (w_not (w_isi (a := fVar 1) w_var rfl (isi_tt cs))) (b := fOp oNeS (fCB bLen (aCons (fVar 1) aNil)) (fCB bLen (aCons (fVar 0) aNil))) fun _ =>
        w_op (w_cb (w_cons w_var w_nil) rfl) (w_cb (w_cons w_var w_nil) rfl) ?_
      · exact this
      · show some (SV.d (.bool (!PyData.eqv (.int (cs.length : Int)) (.int ((ns.map PyData.int).length : Int))))) = _
        rw [List.length_map]
        show some (SV.d (.bool (!((cs.length : Int) == (ns.length : Int))))) = _
        congr 4
        rw [Bool.eq_iff_iff, beq_iff_eq, decide_eq_true_iff]
        omega
    unfold v_right_setting runP p_right_setting
    by_cases h : cs.length = ns.length
    · rw [decide_eq_true h] at hc
      rw [u_seq ((u_ifF hc).trans u_nil), u_ret (tail cs rfl)]
      rw [rightB_tup, decide_eq_true h, Bool.true_and]
      rfl
    · rw [decide_eq_false h] at hc
      rw [u_seqR ((u_ifT hc).trans (u_ret w_c))]
      rw [rightB_tup, decide_eq_false h, Bool.false_and]
      rfl
  | _ => rfl
/-! ### sizes -/
def prodZ : List Int → Int
  | [] => 1
  | s :: r => s * prodZ r
structure Sz (ns : List Int) : Prop where
  all : ∀ s ∈ ns, 1 ≤ s ∧ s ≤ 4
  len : ns.length ≤ 6
  prod : prodZ ns ≤ 64
theorem prod_pos : ∀ {ns : List Int}, (∀ s ∈ ns, 1 ≤ s ∧ s ≤ 4) → 1 ≤ prodZ ns
  | [], _ => by decide
  | s :: r, h => by
    have h1 := (h s List.mem_cons_self).1
    have h2 := prod_pos (ns := r) fun x hx => h x (List.mem_cons_of_mem _ hx)
    show 1 ≤ s * prodZ r
    have := Int.mul_le_mul h1 h2 (by decide) (by omega)
    omega
theorem o_mul {i j : Int} {a b : Nat} (ha : i.natAbs < 2 ^ a) (hb : j.natAbs < 2 ^ b) (h0 : 0 < a) (h1 : 0 < b) (h : a + b ≤ 1000000) : oMul (.d (.int i)) (.d (.int j)) = some (.d (.int (i * j))) := by
  have hc : i.natAbs.log2 + j.natAbs.log2 < 1000000 := wide_mul ha hb h0 h1 h
  show (if i.natAbs.log2 + j.natAbs.log2 < 1000000 then some (PyData.int (i * j)) else none).map SV.d = _
  rw [if_pos hc]
  rfl
theorem o_mulS {i j : Int} (ha : i.natAbs < 1048576) (hb : j.natAbs < 1048576) : oMul (.d (.int i)) (.d (.int j)) = some (.d (.int (i * j))) := o_mul (a := 20) (b := 20) ha hb (by decide) (by decide) (by decide)
theorem le_of_mul {a b c : Int} (h : a * b ≤ c) (ha : 1 ≤ a) (hb : 1 ≤ b) : a ≤ c := by
  have : a * 1 ≤ a * b := Int.mul_le_mul_of_nonneg_left hb (by omega)
  omega
theorem e_settings_many {ns : List Int} (S : Sz ns) : v_settings_many C [tI ns] = okD (.int (prodZ ns)) := by
  unfold v_settings_many runP p_settings_many
  refine congrArg SOut.fin (a₂ := .ret (.d (.int (prodZ ns))) ()) ?_
  refine Eq.trans (u_seq (u_set w_c)) ?_
  have key := loop_invM (γ := Unit) (asg := asgN 2) (body := sAsg 1 (fOp oMul (fVar 1) (fVar 2))) PyData.int (fun rest ρ _ => ∃ (m : Int) (t : Option SV), ρ = [some (.d (tI ns)), some (.d (.int m)), t] ∧ 1 ≤ m ∧ m * prodZ rest = prodZ ns ∧ ∀ s ∈ rest, 1 ≤ s ∧ s ≤ 4) ?_ ns _ () ⟨1, none, rfl, by decide, by rw [Int.one_mul], S.all⟩
  · obtain ⟨ρ', g', e, m, t, rfl, h1, h2, _⟩ := key
    have h2 : m * 1 = prodZ ns := h2
    rw [Int.mul_one] at h2
    rw [← h2]
    exact Eq.trans (u_seq (Eq.trans (u_for (w_any w_var)) e)) (u_retv rfl)
  · rintro s rest ρ g ⟨m, t, rfl, h1, h2, h3⟩
    obtain ⟨a1, a2⟩ := h3 s List.mem_cons_self
    have h3' : ∀ x ∈ rest, 1 ≤ x ∧ x ≤ 4 := fun x hx => h3 x (List.mem_cons_of_mem _ hx)
    have p1 := prod_pos h3
    have mle : m ≤ 64 := le_of_mul (by rw [h2]; exact S.prod) h1 p1
    refine ⟨_, _, (), rfl, u_set (w_op w_var w_var (o_mulS (by omega) (by omega))), m * s, some (.d (.int s)), rfl, ?_, ?_, h3'⟩
    · have := Int.mul_le_mul h1 a1 (by decide) (by omega)
      omega
    · rw [Int.mul_assoc]; exact h2
/-- the digits, the first house of the row first -/
def digR : List Int → Int → List Int
  | [], _ => []
  | s :: r, p => (p % s) :: digR r (p / s)
def digits (ns : List Int) (p : Int) : List Int := (digR ns.reverse p).reverse
theorem digR_len : ∀ (ns : List Int) (p : Int), (digR ns p).length = ns.length
  | [], _ => rfl
  | s :: r, p => by
    show (digR r (p / s)).length + 1 = r.length + 1
    rw [digR_len r]
theorem digits_len (ns : List Int) (p : Int) : (digits ns p).length = ns.length := by
  unfold digits
  rw [List.length_reverse, digR_len, List.length_reverse]
theorem e_setting_from {ns : List Int} (S : Sz ns) (p : Int) : v_setting_from C [tI ns, .int p] = okD (tI (digits ns p)) := by
  unfold v_setting_from runP p_setting_from
  refine congrArg SOut.fin (a₂ := .ret (.d (tI (digits ns p))) ()) ?_
  refine Eq.trans (u_seq (u_set (w_lst w_nil rfl (by decide)))) ?_
  have key := loop_invM (γ := Unit) (asg := asgN 3) (body := sSeq (sUnp (asgT 2 (asgCons (asgN 1) (asgCons (asgN 4) asgNil))) (fCB bDivmod (aCons (fVar 1) (aCons (fVar 3) aNil)))) (sApp 2 (fVar 4))) PyData.int
    (fun rest ρ _ => ∃ (q : Int) (cs : List Int) (t u : Option SV), ρ = [some (.d (tI ns)), some (.d (.int q)), some (.l (cs.map PyData.int)), t, u] ∧ cs ++ digR rest q = digR ns.reverse p ∧ ∀ s ∈ rest, 1 ≤ s ∧ s ≤ 4) ?_ ns.reverse _ () ⟨p, [], none, none, rfl, rfl, fun s hs => S.all s (List.mem_reverse.mp hs)⟩
  · obtain ⟨ρ', g', e, q, cs, t, u, rfl, h2, _⟩ := key
    have h2 : cs ++ [] = digR ns.reverse p := h2
    rw [List.append_nil] at h2
    subst h2
    rw [List.map_reverse] at e
    refine Eq.trans (u_seq (Eq.trans (u_for (w_any (w_frzD (w_rev w_var rfl)))) e)) (Eq.trans (u_ret (w_cb (w_cons (w_rev w_varL rfl) w_nil) rfl)) ?_)
    show SOut.ret (.d (.tuple ((digR ns.reverse p).map PyData.int).reverse)) () = _
    rw [← List.map_reverse]
    rfl
  · rintro s rest ρ g ⟨q, cs, t, u, rfl, h2, h3⟩
    obtain ⟨a1, a2⟩ := h3 s List.mem_cons_self
    have hl : cs.length ≤ 6 := by
      have := congrArg List.length h2
      rw [List.length_append, digR_len, digR_len, List.length_reverse] at this
      have := S.len
      omega
    refine ⟨_, _, (), rfl, Eq.trans (u_seq (u_unp (k := .tuple [.int (q / s), .int (q % s)]) (w_cb (w_cons w_var (w_cons w_var w_nil)) ?_) rfl)) (u_app (xs := cs.map PyData.int) (k := .int (q % s)) rfl w_var ?_), q / s, cs ++ [q % s], some (.d (.int s)), some (.d (.int (q % s))), ?_, ?_, fun x hx => h3 x (List.mem_cons_of_mem _ hx)⟩
    · show (if 0 < s ∧ s < 1073741824 then some (SV.d (.tuple [.int (q / s), .int (q % s)])) else none) = some (.d (.tuple [.int (q / s), .int (q % s)]))
      rw [if_pos ⟨by omega, by omega⟩]
    · rw [List.length_map]; omega
    · rw [List.map_append]; rfl
    · rw [List.append_assoc]; exact h2
end K1

set_option Elab.async false
set_option linter.all false
set_option autoImplicit false
set_option maxRecDepth 100000
set_option maxHeartbeats 1000000
namespace K1
open PySem PySem.Spec PyProof.Rows L2 Dn
variable {C : Addr}
/-! ### places and back -/
abbrev Good (q : Int × Int) : Prop := 1 ≤ q.1 ∧ q.1 ≤ 4 ∧ 0 ≤ q.2 ∧ q.2 < q.1
def placeA : Int → List (Int × Int) → Int
  | a, [] => a
  | a, q :: r => placeA (a * q.1 + q.2) r
theorem placeA_app : ∀ (l : List (Int × Int)) (a : Int) (q : Int × Int), placeA a (l ++ [q]) = placeA a l * q.1 + q.2
  | [], a, q => rfl
  | x :: r, a, q => placeA_app r (a * x.1 + x.2) q
theorem sizes_ok {ns : List Int} (S : Sz ns) (h : ns ≠ []) : sizesB (tI ns) = true := by
  show (decide (0 < (ns.map PyData.int).length) && (ns.map PyData.int).all (atL 1)) = true
  rw [Bool.and_eq_true, decide_eq_true_iff, List.all_eq_true]
  refine ⟨?_, fun x hx => ?_⟩
  · rw [List.length_map]
    cases ns with
    | nil => exact absurd rfl h
    | cons a r => simp
  · obtain ⟨s, hs, rfl⟩ := List.mem_map.mp hx
    exact decide_eq_true (S.all s hs).1
theorem e_need_sizes_ok {ns : List Int} (S : Sz ns) (h : ns ≠ []) : v_need_sizes C [tI ns] = okD .none := by
  rw [e_need_sizes _ (fun xs e => by cases e; rw [List.length_map]; have := S.len; omega), if_pos (sizes_ok S h)]
theorem e_need_setting {ns : List Int} (S : Sz ns) (x : PyData) : v_need_setting C [tI ns, x] = if rightB ns x = true then okD .none else xc C "setting" := by
  have e := e_need (C := C) (rightB ns x) "setting"
  have ha : (aCons (fCall 2 (v_right_setting C) (aCons (fVar 0) (aCons (fVar 1) aNil))) (aCons (fC (.str "setting")) aNil) : FnA Unit) (env0 [("sizes" : Str), ("setting" : Str)] [tI ns, x]) () = .ok [.d (.bool (rightB ns x)), .d (.str "setting")] () :=
    w_cons (w_call (w_cons w_var (w_cons w_var w_nil)) rfl rfl (e_right_setting ns x (by have := S.len; omega))) (w_cons w_c w_nil)
  by_cases h : rightB ns x = true
  · rw [if_pos h] at e ⊢
    exact run_drop (w_call ha rfl rfl e)
  · rw [if_neg h] at e ⊢
    exact run_dropX (w_callX ha rfl rfl e)
theorem right_ints {ns cs : List Int} (hl : cs.length = ns.length) (h : ∀ q ∈ ns.zip cs, 0 ≤ q.2 ∧ q.2 < q.1) : rightB ns (tI cs) = true := by
  rw [rightB_tup, List.length_map, decide_eq_true hl, Bool.true_and, List.all_eq_true]
  intro q hq
  rw [List.zip_map_right] at hq
  obtain ⟨q', hq', rfl⟩ := List.mem_map.mp hq
  obtain ⟨h1, h2⟩ := h q' hq'
  show (decide (0 ≤ q'.2) && decide (q'.2 < q'.1)) = true
  rw [decide_eq_true h1, decide_eq_true h2]
  rfl
theorem zip_ints (ns cs : List Int) : (((ns.map PyData.int).zip (cs.map PyData.int)).map fun p => PyData.tuple [p.1, p.2]) = (ns.zip cs).map fun q => PyData.tuple [.int q.1, .int q.2] := by
  rw [zip_int, List.zip_map_right, List.map_map]
  rfl
theorem e_place_in {ns cs : List Int} (S : Sz ns) (h : ∀ q ∈ ns.zip cs, 0 ≤ q.2 ∧ q.2 < q.1) : v_place_in C [tI ns, tI cs] = okD (.int (placeA 0 (ns.zip cs))) := by
  unfold v_place_in runP p_place_in
  refine congrArg SOut.fin (a₂ := .ret (.d (.int (placeA 0 (ns.zip cs)))) ()) ?_
  refine Eq.trans (u_seq (u_set w_c)) ?_
  have hg : ∀ q ∈ ns.zip cs, Good q := fun q hq => by
    obtain ⟨a1, a2⟩ := S.all q.1 (List.of_mem_zip (show (q.1, q.2) ∈ ns.zip cs from hq)).1
    exact ⟨a1, a2, h q hq⟩
  have hz : (ns.zip cs).length ≤ 6 := by rw [List.length_zip]; have := S.len; omega
  have key := loop_invM (γ := Unit) (asg := asgT 2 (asgCons (asgN 3) (asgCons (asgN 4) asgNil))) (body := sAsg 2 (fOp oAdd (fOp oMul (fVar 2) (fVar 3)) (fVar 4))) (fun q : Int × Int => PyData.tuple [.int q.1, .int q.2])
    (fun rest ρ _ => ∃ (a : Int) (t u : Option SV), ρ = [some (.d (tI ns)), some (.d (tI cs)), some (.d (.int a)), t, u] ∧ 0 ≤ a ∧ a < 4 ^ (6 - rest.length) ∧ rest.length ≤ 6 ∧ placeA a rest = placeA 0 (ns.zip cs) ∧ ∀ q ∈ rest, Good q) ?_ (ns.zip cs) _ ()
    ⟨0, none, none, rfl, by decide, by have : (0 : Int) < 4 ^ (6 - (ns.zip cs).length) := Int.pow_pos (by decide); exact this, hz, rfl, hg⟩
  · obtain ⟨ρ', g', e, a, t, u, rfl, _, _, _, h2, _⟩ := key
    have h2 : a = placeA 0 (ns.zip cs) := h2
    rw [← h2]
    exact Eq.trans (u_seq (Eq.trans (u_for (by rw [← zip_ints]; exact w_zip (w_cons w_var (w_cons w_var w_nil)))) e)) (u_retv rfl)
  · rintro q rest ρ g ⟨a, t, u, rfl, a0, a1, hl, h2, h3⟩
    obtain ⟨q1, q2, q3, q4⟩ := h3 q List.mem_cons_self
    have hl' : rest.length + 1 ≤ 6 := hl
    have e6 : 6 - rest.length = (6 - (rest.length + 1)) + 1 := by omega
    have a1 : a < 4 ^ (6 - (rest.length + 1)) := a1
    have pb : ∀ k : Nat, k ≤ 5 → (4 : Int) ^ k ≤ 1024 := by decide
    have p5 := pb (6 - (rest.length + 1)) (by omega)
    have aq : a * q.1 ≤ a * 4 := Int.mul_le_mul_of_nonneg_left q2 a0
    have aq0 : 0 ≤ a * q.1 := Int.mul_nonneg a0 (by omega)
    refine ⟨_, _, (), rfl, u_set (w_op (w_op w_var w_var (o_mulS (by omega) (by omega))) w_var rfl), a * q.1 + q.2, some (.d (.int q.1)), some (.d (.int q.2)), rfl, by omega, ?_, by omega, h2, fun x hx => h3 x (List.mem_cons_of_mem _ hx)⟩
    rw [e6, Int.pow_succ]
    omega
/-! the digits give the place -/
def valR : List Int → List Int → Int
  | s :: r, c :: cs => valR r cs * s + c
  | _, _ => 0
theorem valR_digR : ∀ (rs : List Int) (p : Int), (∀ s ∈ rs, 1 ≤ s ∧ s ≤ 4) → 0 ≤ p → p < prodZ rs → valR rs (digR rs p) = p
  | [], p, _, h0, h1 => by
    have h1 : p < 1 := h1
    show (0 : Int) = p
    omega
  | s :: r, p, hs, h0, h1 => by
    have s1 := (hs s List.mem_cons_self).1
    have h1 : p < s * prodZ r := h1
    show valR r (digR r (p / s)) * s + p % s = p
    rw [valR_digR r (p / s) (fun x hx => hs x (List.mem_cons_of_mem _ hx)) (Int.ediv_nonneg h0 (by omega)) (Int.ediv_lt_of_lt_mul (by omega) (by rw [Int.mul_comm]; exact h1)), Int.mul_comm]
    exact Int.mul_ediv_add_emod p s
theorem digR_range : ∀ (rs : List Int) (p : Int), (∀ s ∈ rs, 1 ≤ s ∧ s ≤ 4) → ∀ q ∈ rs.zip (digR rs p), 0 ≤ q.2 ∧ q.2 < q.1
  | [], _, _, q, hq => by cases hq
  | s :: r, p, hs, q, hq => by
    have s1 := (hs s List.mem_cons_self).1
    rcases List.mem_cons.mp (show q ∈ (s, p % s) :: r.zip (digR r (p / s)) from hq) with e | e
    · rw [e]
      exact ⟨Int.emod_nonneg _ (by omega), Int.emod_lt_of_pos _ (by omega)⟩
    · exact digR_range r (p / s) (fun x hx => hs x (List.mem_cons_of_mem _ hx)) q e
theorem placeA_valR : ∀ (rs cs : List Int), placeA 0 (rs.zip cs).reverse = valR rs cs
  | [], _ => rfl
  | _ :: _, [] => rfl
  | s :: r, c :: cs => by
    show placeA 0 (((s, c) :: r.zip cs).reverse) = _
    rw [List.reverse_cons, placeA_app, placeA_valR r cs]
    rfl
theorem zip_rev (xs ys : List Int) (h : xs.length = ys.length) : xs.reverse.zip ys.reverse = (xs.zip ys).reverse := by
  rw [List.zip_eq_zipWith, List.zip_eq_zipWith, List.reverse_zipWith h]
theorem prod_app : ∀ (a b : List Int), prodZ (a ++ b) = prodZ a * prodZ b
  | [], b => by show prodZ b = 1 * prodZ b; rw [Int.one_mul]
  | s :: r, b => by
    show s * prodZ (r ++ b) = s * prodZ r * prodZ b
    rw [prod_app r b, Int.mul_assoc]
theorem prod_rev : ∀ (a : List Int), prodZ a.reverse = prodZ a
  | [] => rfl
  | s :: r => by
    rw [List.reverse_cons, prod_app, prod_rev r]
    show prodZ r * (s * 1) = s * prodZ r
    rw [Int.mul_one, Int.mul_comm]
theorem zip_digits (ns : List Int) (p : Int) : ns.zip (digits ns p) = (ns.reverse.zip (digR ns.reverse p)).reverse := by
  have e := zip_rev ns.reverse (digR ns.reverse p) (digR_len _ _).symm
  rw [List.reverse_reverse] at e
  exact e
theorem digits_range {ns : List Int} (S : Sz ns) (p : Int) : ∀ q ∈ ns.zip (digits ns p), 0 ≤ q.2 ∧ q.2 < q.1 := fun q hq => by
  rw [zip_digits, List.mem_reverse] at hq
  exact digR_range _ p (fun s hs => S.all s (List.mem_reverse.mp hs)) q hq
theorem place_digits {ns : List Int} (S : Sz ns) {p : Int} (h0 : 0 ≤ p) (h1 : p < prodZ ns) : placeA 0 (ns.zip (digits ns p)) = p := by
  rw [zip_digits, placeA_valR, valR_digR _ p (fun s hs => S.all s (List.mem_reverse.mp hs)) h0 (by rw [prod_rev]; exact h1)]
end K1

set_option Elab.async false
set_option linter.all false
set_option autoImplicit false
set_option maxRecDepth 100000
set_option maxHeartbeats 1000000
namespace K1
open PySem PySem.Spec PyProof.Rows L2 Dn
variable {C : Addr}
theorem e_place_of {ns cs : List Int} (S : Sz ns) (hn : ns ≠ []) (hl : cs.length = ns.length) (h : ∀ q ∈ ns.zip cs, 0 ≤ q.2 ∧ q.2 < q.1) : v_place_of C [tI ns, tI cs] = okD (.int (placeA 0 (ns.zip cs))) := by
  refine congrArg SOut.fin (a₂ := .ret (.d (.int (placeA 0 (ns.zip cs)))) ()) ?_
  have e2 : v_need_setting C [tI ns, tI cs] = okD .none := by rw [e_need_setting S, if_pos (right_ints hl h)]
  refine Eq.trans (u_seq (u_drop (w_call (w_cons w_var w_nil) rfl rfl (e_need_sizes_ok S hn)))) ?_
  refine Eq.trans (u_seq (u_drop (w_call (w_cons w_var (w_cons w_var w_nil)) rfl rfl e2))) ?_
  exact u_ret (w_call (w_cons w_var (w_cons w_var w_nil)) rfl rfl (e_place_in S h))
theorem e_place_ofX {ns : List Int} (S : Sz ns) (hn : ns ≠ []) (x : PyData) (h : rightB ns x = false) : v_place_of C [tI ns, x] = xc C "setting" := by
  refine congrArg SOut.fin (a₂ := .exc C [("at", .int (-1)), ("word", .str "setting")] [some (.d (tI ns)), some (.d x)] ()) ?_
  have e2 : v_need_setting C [tI ns, x] = xc C "setting" := by rw [e_need_setting S, h]; rfl
  refine Eq.trans (u_seq (u_drop (w_call (w_cons w_var w_nil) rfl rfl (e_need_sizes_ok S hn)))) ?_
  exact u_seqX (u_dropX (w_callX (w_cons w_var (w_cons w_var w_nil)) rfl rfl e2))
theorem e_setting_at {ns : List Int} (S : Sz ns) (hn : ns ≠ []) {p : Int} (h0 : 0 ≤ p) (h1 : p < prodZ ns) : v_setting_at C [tI ns, .int p] = okD (tI (digits ns p)) := by
  refine congrArg SOut.fin (a₂ := .ret (.d (tI (digits ns p))) ()) ?_
  refine Eq.trans (u_seq (u_drop (w_call (w_cons w_var w_nil) rfl rfl (e_need_sizes_ok S hn)))) ?_
  have hb : inR (prodZ ns) (.int p) = true := by
    show (decide (0 ≤ p) && decide (p < prodZ ns)) = true
    rw [decide_eq_true h0, decide_eq_true h1]
    rfl
  have e : v_need C [.bool (inR (prodZ ns) (.int p)), .str "place"] = okD .none := by rw [e_need, if_pos hb]
  refine Eq.trans (u_seq (u_drop (w_call (w_cons (w_call (w_cons (w_call (w_cons w_var w_nil) rfl rfl (e_settings_many S)) (w_cons w_var w_nil)) rfl rfl (e_is_index (prodZ ns) (.int p))) (w_cons w_c w_nil)) rfl rfl e))) ?_
  exact u_ret (w_call (w_cons w_var (w_cons w_var w_nil)) rfl rfl (e_setting_from S p))
theorem e_setting_atX {ns : List Int} (S : Sz ns) (hn : ns ≠ []) (x : PyData) (h : inR (prodZ ns) x = false) : v_setting_at C [tI ns, x] = xc C "place" := by
  refine congrArg SOut.fin (a₂ := .exc C [("at", .int (-1)), ("word", .str "place")] [some (.d (tI ns)), some (.d x)] ()) ?_
  refine Eq.trans (u_seq (u_drop (w_call (w_cons w_var w_nil) rfl rfl (e_need_sizes_ok S hn)))) ?_
  have e : v_need C [.bool (inR (prodZ ns) x), .str "place"] = xc C "place" := by rw [e_need, h]; rfl
  exact u_seqX (u_dropX (w_callX (w_cons (w_call (w_cons (w_call (w_cons w_var w_nil) rfl rfl (e_settings_many S)) (w_cons w_var w_nil)) rfl rfl (e_is_index (prodZ ns) x)) (w_cons w_c w_nil)) rfl rfl e))
/-! the generator -/
theorem gl_drop {φ : Fn Unit} {ρ : Dn.Env} {zs : List PyData} {x : SV} (h : φ ρ () = .ok x ()) : gLift (sDrop φ) ρ zs = .next ρ zs := by
  unfold gLift
  rw [u_drop h]
theorem gl_dropX {φ : Fn Unit} {ρ : Dn.Env} {zs : List PyData} {X : Addr} {fs : List (Str × PyData)} (h : φ ρ () = .exc X fs ()) : gLift (sDrop φ) ρ zs = .exc X fs ρ zs := by
  unfold gLift
  rw [u_dropX h]
theorem prod64 {ns : List Int} (S : Sz ns) : ∃ n : Nat, prodZ ns = n ∧ 1 ≤ n ∧ n ≤ 64 := ⟨(prodZ ns).toNat, by have := prod_pos S.all; omega, by have := prod_pos S.all; omega, by have := S.prod; omega⟩
theorem e_settings_of {ns : List Int} (S : Sz ns) (hn : ns ≠ []) {n : Nat} (hp : prodZ ns = n) (hn1 : n ≤ 64) : v_settings_of C [tI ns] = .ok ((List.range n).map fun k : Nat => tI (digits ns k)) () := by
  have main : p_settings_of C (env0 [("sizes" : Str), ("place" : Str)] [tI ns]) [] = .next ([some (.d (tI ns)), if n = 0 then none else some (.d (.int (n - 1 : Nat)))]) ((List.range n).map fun k : Nat => tI (digits ns k)) := by
    refine Eq.trans (u_seq (gl_drop (x := .d .none) (w_call (w_cons (w_var (x := tI ns) rfl) w_nil) rfl rfl (e_need_sizes_ok S hn)))) ?_
    have key := loop_invM (γ := List PyData) (asg := asgN 1) (body := sSeq (gYield (fCall 2 (v_setting_from C) (aCons (fVar 0) (aCons (fVar 1) aNil)))) gNil) (fun k : Nat => PyData.int k)
      (fun rest ρ zs => ∃ i : Nat, rest = (List.range n).drop i ∧ i ≤ n ∧ ρ = [some (.d (tI ns)), if i = 0 then none else some (.d (.int (i - 1 : Nat)))] ∧ zs = (List.range i).map fun k : Nat => tI (digits ns k)) ?_ (List.range n) _ [] ⟨0, by rw [List.drop_zero], Nat.zero_le _, rfl, rfl⟩
    · obtain ⟨ρ', g', e, i, h1, h2, rfl, rfl⟩ := key
      have hi : i = n := by
        have := congrArg List.length h1
        rw [List.length_drop, List.length_range, List.length_nil] at this
        omega
      subst hi
      refine Eq.trans (u_seq (ρ1 := [some (.d (tI ns)), if i = 0 then none else some (.d (.int (i - 1 : Nat)))]) (g1 := (List.range i).map fun k : Nat => tI (digits ns k)) ?_) rfl
      have esm : v_settings_many C [tI ns] = okD (.int (i : Int)) := by rw [e_settings_many S, hp]
      have er : (iRng1F (aCons (fCall 1 (v_settings_many C) (aCons (fVar 0) aNil)) aNil) : FnI Unit) (env0 [("sizes" : Str), ("place" : Str)] [tI ns]) () = .ok ((List.range i).map fun k : Nat => PyData.int k) () :=
        w_rng1 (w_cons (w_call (w_cons w_var w_nil) rfl rfl esm) w_nil) (by omega)
      unfold gFor
      rw [er]
      exact e
    · rintro k rest ρ zs ⟨i, h1, h2, rfl, rfl⟩
      have hi : i < n := by
        have := congrArg List.length h1
        rw [List.length_drop, List.length_range, List.length_cons] at this
        omega
      rw [List.drop_eq_getElem_cons (by rw [List.length_range]; exact hi)] at h1
      injection h1 with e1 e2
      rw [List.getElem_range] at e1
      subst e1
      refine ⟨_, _, _, rfl, u_seq (ρ1 := [some (.d (tI ns)), some (.d (.int (k : Nat)))]) (g1 := ((List.range k).map fun k : Nat => tI (digits ns k)) ++ [tI (digits ns k)]) ?_, k + 1, e2, hi, ?_, ?_⟩
      · have hl : ((List.range k).map fun k : Nat => tI (digits ns k)).length < sizeLine := by
          rw [List.length_map, List.length_range]
          exact Nat.lt_of_lt_of_le (Nat.lt_of_lt_of_le hi hn1) (by decide)
        have ec : (fCall 2 (v_setting_from C) (aCons (fVar 0) (aCons (fVar 1) aNil)) : Fn Unit) [some (.d (tI ns)), some (.d (.int (k : Nat)))] () = .ok (.d (tI (digits ns k))) () := w_call (w_cons w_var (w_cons w_var w_nil)) rfl rfl (e_setting_from S k)
        show gYield _ [some (.d (tI ns)), some (.d (.int (k : Nat)))] _ = _
        unfold gYield
        rw [if_pos hl, ec]
      · rw [if_neg (by omega)]
        rfl
      · rw [List.range_succ, List.map_append]
        rfl
  unfold v_settings_of runG
  rw [main]
theorem e_settings_ofX (x : PyData) (hl : ∀ xs, x = .tuple xs → xs.length ≤ 100000) (h : sizesB x = false) : v_settings_of C [x] = .exc C [("at", .int (-1)), ("word", .str "sizes")] () := by
  have e : v_need_sizes C [x] = xc C "sizes" := by rw [e_need_sizes x hl, h]; rfl
  have main : p_settings_of C (env0 [("sizes" : Str), ("place" : Str)] [x]) [] = .exc C [("at", .int (-1)), ("word", .str "sizes")] (env0 [("sizes" : Str), ("place" : Str)] [x]) [] := u_seqX (gl_dropX (w_callX (w_cons (w_var (x := x) rfl) w_nil) rfl rfl e))
  unfold v_settings_of runG
  rw [main]
end K1

set_option Elab.async false
set_option linter.all false
set_option autoImplicit false
set_option maxRecDepth 100000
set_option maxHeartbeats 1000000
namespace Dn
open PySem PySem.Spec PyProof.Rows L2
theorem w_rng2b {γ : Type} {ρ : Dn.Env} {g g1 : γ} {Φ : FnA γ} {m l : Int} {n : Nat} (h : Φ ρ g = .ok [.d (.int m), .d (.int l)] g1) (e : (l - m).toNat = n) (h0 : -1000000 ≤ m) (h1 : m ≤ 2000000) (h2 : -1000000 ≤ l) (h3 : l ≤ 2000000) : iRng2F Φ ρ g = .ok ((List.range n).map fun k : Nat => PyData.int (m + k)) g1 := by
  have c1 := in62 h0 h1
  have c2 := in62 h2 h3
  rw [rng_ok2 m l ⟨c1.1, c1.2, c2.1, c2.2⟩ h, e]
theorem o_ixT {xs : List PyData} {k : Nat} {d : PyData} (h : xs[k]? = some d) : oIx (.d (.tuple xs)) (.d (.int k)) = some (.d d) := by
  show (atI xs (k : Int)).map SV.d = _
  rw [atI_nat h]
  rfl
theorem o_ixL {xs : List PyData} {k : Nat} {d : PyData} (h : xs[k]? = some d) : oIx (.d (.list xs)) (.d (.int k)) = some (.d d) := by
  show (atI xs (k : Int)).map SV.d = _
  rw [atI_nat h]
  rfl
end Dn
namespace K1
open PySem PySem.Spec PyProof.Rows L2 Dn
variable {C : Addr}
abbrev tN (l : List Nat) : PyData := .tuple (l.map fun k : Nat => PyData.int k)
structure Lot (n : Nat) (l : List Nat) : Prop where
  asc : l.Pairwise (· < ·)
  lt : ∀ h ∈ l, h < n
  few : l.length ≤ 1000
theorem tN_get {l : List Nat} {k h : Nat} (e : l[k]? = some h) : (l.map fun k : Nat => PyData.int k)[k]? = some (.int h) := by rw [List.getElem?_map, e]; rfl
theorem e_is_ascending {l : List Nat} (hl : l.length ≤ 1000) (h : l.Pairwise (· < ·)) : v_is_ascending C [tN l] = okB true := by
  have step : ∀ k ∈ List.range (l.length - 1), ∃ ρ1 : Dn.Env, asgN 1 (.int (1 + (k : Int))) (wipeE (env0 [("things" : Str), ("k" : Str)] [tN l]) [1]) = some ρ1 ∧
      (fOp oLt (fOp oIx (fVar 0) (fOp oSub (fVar 1) (fC (.int 1)))) (fOp oIx (fVar 0) (fVar 1)) : Fn Unit) ρ1 () = .ok (.d (.bool ((fun _ : Nat => true) k))) () := fun k hk => by
    have hk : k < l.length - 1 := List.mem_range.mp hk
    have h1 : l[k]? = some (l[k]'(by omega)) := List.getElem?_eq_getElem _
    have h2 : l[k + 1]? = some (l[k + 1]'(by omega)) := List.getElem?_eq_getElem _
    have lt := List.pairwise_iff_getElem.mp h k (k + 1) (by omega) (by omega) (by omega)
    refine ⟨[some (.d (tN l)), some (.d (.int (1 + (k : Int))))], rfl, w_op (w_op w_var (w_op w_var w_c (z := .d (.int k)) ?_) (o_ixT (tN_get h1))) (w_op w_var w_var (z := .d (.int (l[k + 1]'(by omega) : Nat))) ?_) ?_⟩
    · show some (SV.d (.int (1 + (k : Int) - 1))) = _
      congr 3
      omega
    · have : (1 + (k : Int)) = ((k + 1 : Nat) : Int) := by omega
      rw [this]
      exact o_ixT (tN_get h2)
    · show some (SV.d (.bool (decide (((l[k]'(by omega) : Nat) : Int) < ((l[k + 1]'(by omega) : Nat) : Int))))) = _
      rw [decide_eq_true (by omega)]
  have hlen : (fCB bLen (aCons (fVar 0) aNil) : Fn Unit) (env0 [("things" : Str), ("k" : Str)] [tN l]) () = .ok (.d (.int (l.length : Int))) () := w_cb (w_cons w_var w_nil) (by
    show some (SV.d (.int ((l.map fun k : Nat => PyData.int k).length : Int))) = _
    rw [List.length_map])
  refine run_ret (w_cb (w_cons (w_lc (List.range (l.length - 1)) (fun k : Nat => .int (1 + (k : Int))) (fun k => .bool ((fun _ : Nat => true) k)) (w_rng2b (w_cons w_c (w_cons hlen w_nil)) (by omega) (by decide) (by decide) (by omega) (by omega)) (by rw [List.length_range]; omega) step) w_nil) ?_)
  rw [v_all (fun _ : Nat => true) (List.range (l.length - 1))]
  congr 3
  rw [List.all_eq_true]
  intro _ _
  rfl
theorem e_right_lot {n : Nat} {l : List Nat} (L : Lot n l) : v_right_lot C [.int n, tN l] = okB true := by
  refine congrArg SOut.fin (a₂ := .ret (.d (.bool true)) ()) ?_
  have hall : (fCB bAll (aCons (fLc [2] (iAny (fVar 1)) (asgN 2) fYes (fCall 2 (v_is_index C) (aCons (fVar 0) (aCons (fVar 2) aNil)))) aNil) : Fn Unit) (env0 [("many" : Str), ("thing" : Str), ("house" : Str)] [.int n, tN l]) () = .ok (.d (.bool true)) () := by
    refine w_cb (w_cons (w_lc l (fun k : Nat => .int k) (fun k => .bool (inR n (.int (k : Nat)))) (w_any w_var) (by have := L.few; omega) fun k hk => ⟨[some (.d (.int n)), some (.d (tN l)), some (.d (.int k))], rfl, w_call (w_cons w_var (w_cons w_var w_nil)) rfl rfl (e_is_index n (.int k))⟩) w_nil) ?_
    rw [v_all (fun k : Nat => inR n (.int (k : Nat))) l]
    congr 3
    rw [List.all_eq_true]
    intro k hk
    have := L.lt k hk
    show (decide (0 ≤ (k : Int)) && decide ((k : Int) < n)) = true
    rw [decide_eq_true (by omega), decide_eq_true (by omega)]
    rfl
  have hc : (fOr (fNot (fIsi "tuple" (fVar 1))) (fNot (fCB bAll (aCons (fLc [2] (iAny (fVar 1)) (asgN 2) fYes (fCall 2 (v_is_index C) (aCons (fVar 0) (aCons (fVar 2) aNil)))) aNil))) : Fn Unit) (env0 [("many" : Str), ("thing" : Str), ("house" : Str)] [.int n, tN l]) () = .ok (.d (.bool false)) () :=
    w_or (w_not (w_isi w_var rfl (isi_tt _))) fun _ => w_not hall
  refine Eq.trans (u_seq (Eq.trans (u_ifF hc) u_nil)) ?_
  exact u_ret (w_call (w_cons w_var w_nil) rfl rfl (e_is_ascending L.few L.asc))
theorem e_need_lot {n : Nat} {l : List Nat} (L : Lot n l) : v_need_lot C [.int n, tN l] = okD .none :=
  run_drop (w_call (w_cons (w_call (w_cons w_var (w_cons w_var w_nil)) rfl rfl (e_right_lot L)) (w_cons w_c w_nil)) rfl rfl (e_need true "lot"))
theorem e_values_on {cs : List Int} {l : List Nat} (h : ∀ k ∈ l, k < cs.length) (hl : l.length ≤ 1000) : v_values_on C [tI cs, tN l] = okD (tI (l.map fun k => cs.getD k 0)) := by
  refine run_ret (w_cb (w_cons (w_lc l (fun k : Nat => .int k) (fun k => .int (cs.getD k 0)) (w_any w_var) (by omega) fun k hk => ⟨[some (.d (tI cs)), some (.d (tN l)), some (.d (.int k))], rfl, w_op w_var w_var (o_ixT ?_)⟩) w_nil) ?_)
  · have := h k hk
    rw [List.getElem?_map, List.getElem?_eq_getElem this]
    simp [this]
  · show some (SV.d (.tuple (l.map fun k => PyData.int (cs.getD k 0)))) = some (SV.d (.tuple ((l.map fun k => cs.getD k 0).map PyData.int)))
    rw [List.map_map]
    rfl
theorem e_choices_on {ns cs : List Int} {l : List Nat} (S : Sz ns) (hn : ns ≠ []) (hl : cs.length = ns.length) (h : ∀ q ∈ ns.zip cs, 0 ≤ q.2 ∧ q.2 < q.1) (L : Lot ns.length l) : v_choices_on C [tI ns, tI cs, tN l] = okD (tI (l.map fun k => cs.getD k 0)) := by
  refine congrArg SOut.fin (a₂ := .ret (.d (tI (l.map fun k => cs.getD k 0))) ()) ?_
  have e2 : v_need_setting C [tI ns, tI cs] = okD .none := by rw [e_need_setting S, if_pos (right_ints hl h)]
  refine Eq.trans (u_seq (u_drop (w_call (w_cons w_var w_nil) rfl rfl (e_need_sizes_ok S hn)))) ?_
  refine Eq.trans (u_seq (u_drop (w_call (w_cons w_var (w_cons w_var w_nil)) rfl rfl e2))) ?_
  refine Eq.trans (u_seq (u_drop (w_call (w_cons (w_cb (w_cons w_var w_nil) (z := .d (.int (ns.length : Int))) ?_) (w_cons w_var w_nil)) rfl rfl (e_need_lot L)))) ?_
  · show some (SV.d (.int ((ns.map PyData.int).length : Int))) = _
    rw [List.length_map]
  exact u_ret (w_call (w_cons w_var (w_cons w_var w_nil)) rfl rfl (e_values_on (fun k hk => by rw [hl]; exact L.lt k hk) L.few))
theorem e_choices_onX {ns : List Int} {l : List Nat} (S : Sz ns) (hn : ns ≠ []) (x : PyData) (h : rightB ns x = false) : v_choices_on C [tI ns, x, tN l] = xc C "setting" := by
  refine congrArg SOut.fin (a₂ := .exc C [("at", .int (-1)), ("word", .str "setting")] [some (.d (tI ns)), some (.d x), some (.d (tN l))] ()) ?_
  have e2 : v_need_setting C [tI ns, x] = xc C "setting" := by rw [e_need_setting S, h]; rfl
  refine Eq.trans (u_seq (u_drop (w_call (w_cons w_var w_nil) rfl rfl (e_need_sizes_ok S hn)))) ?_
  exact u_seqX (u_dropX (w_callX (w_cons w_var (w_cons w_var w_nil)) rfl rfl e2))
/-! put_on -/
def setAll : List Int → List (Nat × Int) → List Int
  | cs, [] => cs
  | cs, q :: r => setAll (cs.set q.1 q.2) r
theorem setAll_len : ∀ (l : List (Nat × Int)) (cs : List Int), (setAll cs l).length = cs.length
  | [], _ => rfl
  | q :: r, cs => by
    show (setAll (cs.set q.1 q.2) r).length = _
    rw [setAll_len r, List.length_set]
theorem zip_lot (l : List Nat) (ds : List Int) : (((l.map fun k : Nat => PyData.int k).zip (ds.map PyData.int)).map fun p => PyData.tuple [p.1, p.2]) = (l.zip ds).map fun q : Nat × Int => PyData.tuple [.int (q.1 : Nat), .int q.2] := by
  rw [List.zip_map, List.map_map]
  rfl
theorem put_loop {ρr : List (Option SV)} {l : List Nat} {cs ds : List Int} (h : ∀ k ∈ l, k < cs.length) (a b c d : PyData) : ∃ t u, loopD (γ := Unit) (asgT 2 (asgCons (asgN 5) (asgCons (asgN 6) asgNil))) (sSetI 4 (fVar 5) (fVar 6)) ((l.zip ds).map fun q : Nat × Int => PyData.tuple [.int (q.1 : Nat), .int q.2])
    [some (.d a), some (.d b), some (.d c), some (.d d), some (.l (cs.map PyData.int)), none, none] () = .next [some (.d a), some (.d b), some (.d c), some (.d d), some (.l ((setAll cs (l.zip ds)).map PyData.int)), t, u] () := by
  have key := loop_invM (γ := Unit) (asg := asgT 2 (asgCons (asgN 5) (asgCons (asgN 6) asgNil))) (body := sSetI 4 (fVar 5) (fVar 6)) (fun q : Nat × Int => PyData.tuple [.int (q.1 : Nat), .int q.2])
    (fun rest ρ _ => ∃ (xs : List Int) (t u : Option SV), ρ = [some (.d a), some (.d b), some (.d c), some (.d d), some (.l (xs.map PyData.int)), t, u] ∧ setAll xs rest = setAll cs (l.zip ds) ∧ xs.length = cs.length ∧ ∀ q ∈ rest, q.1 < cs.length) ?_ (l.zip ds) _ ()
    ⟨cs, none, none, rfl, rfl, rfl, fun q hq => h q.1 (List.of_mem_zip (show (q.1, q.2) ∈ l.zip ds from hq)).1⟩
  · obtain ⟨ρ', g', e, xs, t, u, rfl, h2, _⟩ := key
    have h2 : xs = setAll cs (l.zip ds) := h2
    subst h2
    exact ⟨t, u, e⟩
  · rintro q rest ρ g ⟨xs, t, u, rfl, h2, hx, h3⟩
    have hq := h3 q List.mem_cons_self
    refine ⟨_, _, (), rfl, u_seti (xs := xs.map PyData.int) (k := .int q.2) (n := q.1) (j := q.1) w_var rfl w_var (ixN_at (by rw [List.length_map, hx]; exact hq)), xs.set q.1 q.2, some (.d (.int (q.1 : Nat))), some (.d (.int q.2)), ?_, h2, by rw [List.length_set]; exact hx, fun x hx' => h3 x (List.mem_cons_of_mem _ hx')⟩
    rw [List.map_set]
    rfl
theorem e_put_on {ns cs ds : List Int} {l : List Nat} (S : Sz ns) (hn : ns ≠ []) (hl : cs.length = ns.length) (h : ∀ q ∈ ns.zip cs, 0 ≤ q.2 ∧ q.2 < q.1) (L : Lot ns.length l) (hd : rightB (l.map fun k => ns.getD k 0) (tI ds) = true) :
    v_put_on C [tI ns, tI cs, tN l, tI ds] = okD (tI (setAll cs (l.zip ds))) := by
  refine congrArg SOut.fin (a₂ := .ret (.d (tI (setAll cs (l.zip ds)))) ()) ?_
  have e2 : v_need_setting C [tI ns, tI cs] = okD .none := by rw [e_need_setting S, if_pos (right_ints hl h)]
  have elen : (fCB bLen (aCons (fVar 0) aNil) : Fn Unit) (env0 [("sizes" : Str), ("setting" : Str), ("lot" : Str), ("choices" : Str), ("changed" : Str), ("house" : Str), ("choice" : Str)] [tI ns, tI cs, tN l, tI ds]) () = .ok (.d (.int (ns.length : Int))) () := w_cb (w_cons w_var w_nil) (by
    show some (SV.d (.int ((ns.map PyData.int).length : Int))) = _
    rw [List.length_map])
  have en : v_need C [.bool (rightB (l.map fun k => ns.getD k 0) (tI ds)), .str "choices"] = okD .none := by rw [e_need, if_pos hd]
  refine Eq.trans (u_seq (u_drop (w_call (w_cons w_var w_nil) rfl rfl (e_need_sizes_ok S hn)))) ?_
  refine Eq.trans (u_seq (u_drop (w_call (w_cons w_var (w_cons w_var w_nil)) rfl rfl e2))) ?_
  refine Eq.trans (u_seq (u_drop (w_call (w_cons elen (w_cons w_var w_nil)) rfl rfl (e_need_lot L)))) ?_
  refine Eq.trans (u_seq (u_drop (w_call (w_cons (w_call (w_cons (w_call (w_cons w_var (w_cons w_var w_nil)) rfl rfl (e_values_on L.lt L.few)) (w_cons w_var w_nil)) rfl rfl (e_right_setting _ (tI ds) (by rw [List.length_map]; exact L.few))) (w_cons w_c w_nil)) rfl rfl en))) ?_
  refine Eq.trans (u_seq (u_set (w_cb (w_cons w_var w_nil) rfl))) ?_
  obtain ⟨t, u, eloop⟩ := put_loop (ρr := []) (l := l) (cs := cs) (ds := ds) (fun k hk => by rw [hl]; exact L.lt k hk) (tI ns) (tI cs) (tN l) (tI ds)
  refine Eq.trans (u_seq (Eq.trans (u_for (w_zip (w_cons w_var (w_cons w_var w_nil)))) (by rw [zip_lot]; exact eloop))) ?_
  exact u_ret (w_cb (w_cons w_varL w_nil) rfl)
theorem e_put_onX {ns cs : List Int} {l : List Nat} (x : PyData) (S : Sz ns) (hn : ns ≠ []) (hl : cs.length = ns.length) (h : ∀ q ∈ ns.zip cs, 0 ≤ q.2 ∧ q.2 < q.1) (L : Lot ns.length l) (hd : rightB (l.map fun k => ns.getD k 0) x = false) :
    v_put_on C [tI ns, tI cs, tN l, x] = xc C "choices" := by
  refine congrArg SOut.fin (a₂ := .exc C [("at", .int (-1)), ("word", .str "choices")] (env0 [("sizes" : Str), ("setting" : Str), ("lot" : Str), ("choices" : Str), ("changed" : Str), ("house" : Str), ("choice" : Str)] [tI ns, tI cs, tN l, x]) ()) ?_
  have e2 : v_need_setting C [tI ns, tI cs] = okD .none := by rw [e_need_setting S, if_pos (right_ints hl h)]
  have elen : (fCB bLen (aCons (fVar 0) aNil) : Fn Unit) (env0 [("sizes" : Str), ("setting" : Str), ("lot" : Str), ("choices" : Str), ("changed" : Str), ("house" : Str), ("choice" : Str)] [tI ns, tI cs, tN l, x]) () = .ok (.d (.int (ns.length : Int))) () := w_cb (w_cons w_var w_nil) (by
    show some (SV.d (.int ((ns.map PyData.int).length : Int))) = _
    rw [List.length_map])
  have en : v_need C [.bool (rightB (l.map fun k => ns.getD k 0) x), .str "choices"] = xc C "choices" := by rw [e_need, hd]; rfl
  refine Eq.trans (u_seq (u_drop (w_call (w_cons w_var w_nil) rfl rfl (e_need_sizes_ok S hn)))) ?_
  refine Eq.trans (u_seq (u_drop (w_call (w_cons w_var (w_cons w_var w_nil)) rfl rfl e2))) ?_
  refine Eq.trans (u_seq (u_drop (w_call (w_cons elen (w_cons w_var w_nil)) rfl rfl (e_need_lot L)))) ?_
  exact u_seqX (u_dropX (w_callX (w_cons (w_call (w_cons (w_call (w_cons w_var (w_cons w_var w_nil)) rfl rfl (e_values_on L.lt L.few)) (w_cons w_var w_nil)) rfl rfl (e_right_setting _ x (by rw [List.length_map]; exact L.few))) (w_cons w_c w_nil)) rfl rfl en))
end K1

set_option Elab.async false
set_option linter.all false
set_option autoImplicit false
set_option maxRecDepth 100000
set_option maxHeartbeats 1000000
namespace K1
open PySem PySem.Spec PyProof.Rows L2 Dn
variable {C : Addr}
/-! ### quotients -/
abbrev gcdZ (i j : Int) : Nat := Nat.gcd i.natAbs j.natAbs
structure Red (t b a c : Int) : Prop where
  pos : 1 ≤ c
  eq : a * b = t * c
  cop : gcdZ a c = 1
  la : a.natAbs ≤ t.natAbs
  lc : c.natAbs ≤ b.natAbs
theorem red_core {t b : Int} (hb : b ≠ 0) : ∃ t' b' : Int, t = gcdZ t b * t' ∧ b = gcdZ t b * b' ∧ gcdZ t' b' = 1 ∧ b' ≠ 0 ∧ 0 < gcdZ t b := by
  have hg : 0 < gcdZ t b := Nat.gcd_pos_of_pos_right _ (Int.natAbs_pos.mpr hb)
  obtain ⟨t', ht⟩ := Int.ofNat_dvd_left.mpr (Nat.gcd_dvd_left t.natAbs b.natAbs)
  obtain ⟨b', hb'⟩ := Int.ofNat_dvd_left.mpr (Nat.gcd_dvd_right t.natAbs b.natAbs)
  have nb : b' ≠ 0 := fun z => by rw [z, Int.mul_zero] at hb'; exact hb hb'
  refine ⟨t', b', ht, hb', ?_, nb, hg⟩
  have e1 : t.natAbs = gcdZ t b * t'.natAbs := by
    have := congrArg Int.natAbs ht
    rw [Int.natAbs_mul, Int.natAbs_natCast] at this
    exact this
  have e2 : b.natAbs = gcdZ t b * b'.natAbs := by
    have := congrArg Int.natAbs hb'
    rw [Int.natAbs_mul, Int.natAbs_natCast] at this
    exact this
  have e3 : gcdZ t b = gcdZ t b * gcdZ t' b' := by
    have : gcdZ t b = Nat.gcd (gcdZ t b * t'.natAbs) (gcdZ t b * b'.natAbs) := by rw [← e1, ← e2]
    rw [Nat.gcd_mul_left] at this
    exact this
  exact Nat.eq_of_mul_eq_mul_left hg (by rw [Nat.mul_one]; exact e3.symm)
theorem red_of {t b : Int} (hb : b ≠ 0) : Red t b (t.fdiv (if b < 0 then -(gcdZ t b : Int) else gcdZ t b)) (b.fdiv (if b < 0 then -(gcdZ t b : Int) else gcdZ t b)) := by
  obtain ⟨t', b', ht, hb', hc, nb, hg⟩ := red_core (t := t) hb
  obtain ⟨G, hG⟩ : ∃ G : Nat, gcdZ t b = G := ⟨_, rfl⟩
  rw [hG] at ht hb' hg ⊢
  have g0 : (G : Int) ≠ 0 := by omega
  have g1 : (1 : Int) ≤ G := by omega
  have lt' : t'.natAbs ≤ t.natAbs := by
    rw [ht, Int.natAbs_mul, Int.natAbs_natCast]
    exact Nat.le_mul_of_pos_left _ hg
  have lb' : b'.natAbs ≤ b.natAbs := by
    rw [hb', Int.natAbs_mul, Int.natAbs_natCast]
    exact Nat.le_mul_of_pos_left _ hg
  by_cases n : b < 0
  · rw [if_pos n]
    have bn : b' < 0 := by
      rcases Int.lt_trichotomy b' 0 with z | z | z
      · exact z
      · exact absurd z nb
      · have := Int.mul_pos (show (0 : Int) < G by omega) z
        omega
    have et : t.fdiv (-(G : Int)) = -t' := by
      have : t = -(G : Int) * -t' := by rw [Int.neg_mul_neg]; exact ht
      rw [this, Int.mul_fdiv_cancel_left _ (by omega)]
    have eb : b.fdiv (-(G : Int)) = -b' := by
      have : b = -(G : Int) * -b' := by rw [Int.neg_mul_neg]; exact hb'
      rw [this, Int.mul_fdiv_cancel_left _ (by omega)]
    rw [et, eb]
    refine ⟨by omega, ?_, ?_, by rw [Int.natAbs_neg]; exact lt', by rw [Int.natAbs_neg]; exact lb'⟩
    · rw [ht, hb', Int.neg_mul, Int.mul_neg, Int.mul_left_comm, Int.mul_assoc]
    · show Nat.gcd (-t').natAbs (-b').natAbs = 1
      rw [Int.natAbs_neg, Int.natAbs_neg]
      exact hc
  · rw [if_neg n]
    have bn : 0 < b' := by
      rcases Int.lt_trichotomy b' 0 with z | z | z
      · have := Int.mul_neg_of_pos_of_neg (show (0 : Int) < G by omega) z
        omega
      · exact absurd z nb
      · exact z
    have et : t.fdiv (G : Int) = t' := by rw [ht, Int.mul_fdiv_cancel_left _ (by omega)]
    have eb : b.fdiv (G : Int) = b' := by rw [hb', Int.mul_fdiv_cancel_left _ (by omega)]
    rw [et, eb]
    refine ⟨by omega, ?_, hc, lt', lb'⟩
    rw [ht, hb', Int.mul_left_comm, Int.mul_assoc]
theorem log_lt {n a : Nat} (h : n < 2 ^ a) (ha : 0 < a) : n.log2 < a := PySem.Flt.log2_lt_of ha h
theorem e_reduced {t b : Int} {k : Nat} (hb : b ≠ 0) (hk : b.natAbs < 2 ^ k) (k1 : k ≤ 8000) : ∃ a c, Red t b a c ∧ v_reduced C [.int t, .int b] = okD (.tuple [.int a, .int c]) := by
  refine ⟨_, _, red_of hb, ?_⟩
  have gl : gcdZ t b ≤ b.natAbs := Nat.gcd_le_right _ (Int.natAbs_pos.mpr hb)
  have gp : 0 < gcdZ t b := Nat.gcd_pos_of_pos_right _ (Int.natAbs_pos.mpr hb)
  have k0 : 0 < k := by
    cases k with
    | zero => have := Int.natAbs_pos.mpr hb; omega
    | succ n => exact Nat.succ_pos n
  have dv : ∀ (z d : Int), d ≠ 0 → d.natAbs = gcdZ t b → oDiv (.d (.int z)) (.d (.int d)) = some (.d (.int (z.fdiv d))) := fun z d d0 dn => by
    have hl : d.natAbs.log2 < 9000 := by
      rw [dn]
      exact Nat.lt_of_lt_of_le (log_lt (Nat.lt_of_le_of_lt gl hk) k0) (by omega)
    show (if d ≠ 0 ∧ d.natAbs.log2 < 9000 then some (PyData.int (z.fdiv d)) else none).map SV.d = _
    rw [if_pos ⟨d0, hl⟩]
    rfl
  obtain ⟨G, hG⟩ : ∃ G : Nat, gcdZ t b = G := ⟨_, rfl⟩
  rw [hG] at gl gp dv ⊢
  refine congrArg SOut.fin (a₂ := .ret (.d (.tuple [.int (t.fdiv (if b < 0 then -(G : Int) else G)), .int (b.fdiv (if b < 0 then -(G : Int) else G))])) ()) ?_
  have eg : bGcd [.d (.int t), .d (.int b)] = some (.d (.int (G : Int))) := by
    show some (SV.d (.int (gcdZ t b : Int))) = _
    rw [hG]
  refine Eq.trans (u_seq (u_set (w_cb (w_cons w_var (w_cons w_var w_nil)) eg))) ?_
  by_cases n : b < 0
  · have hc : (fOp oLt (fVar 1) (fC (.int 0)) : Fn Unit) [some (.d (.int t)), some (.d (.int b)), some (.d (.int (G : Int)))] () = .ok (.d (.bool true)) () := w_op w_var w_c (by
      show some (SV.d (.bool (decide (b < 0)))) = _
      rw [decide_eq_true n])
    rw [if_pos n]
    refine Eq.trans (u_seq (Eq.trans (u_ifT hc) (u_set (w_un w_var rfl)))) ?_
    exact u_ret (w_tup (w_cons (w_op w_var w_var (dv t _ (by omega) (by omega))) (w_cons (w_op w_var w_var (dv b _ (by omega) (by omega))) w_nil)) rfl (show 2 ≤ 1000 by decide))
  · have hc : (fOp oLt (fVar 1) (fC (.int 0)) : Fn Unit) [some (.d (.int t)), some (.d (.int b)), some (.d (.int (G : Int)))] () = .ok (.d (.bool false)) () := w_op w_var w_c (by
      show some (SV.d (.bool (decide (b < 0)))) = _
      rw [decide_eq_false n])
    rw [if_neg n]
    refine Eq.trans (u_seq (Eq.trans (u_ifF hc) u_nil)) ?_
    exact u_ret (w_tup (w_cons (w_op w_var w_var (dv t _ (by omega) (by omega))) (w_cons (w_op w_var w_var (dv b _ (by omega) (by omega))) w_nil)) rfl (show 2 ≤ 1000 by decide))
theorem run_seq_ret {N : List Str} {ψ : SFn Unit} {ds : List PyData} {y : SV} (h : ψ (env0 N ds) () = .ret y ()) : runP N ψ ds = .ok y () := congrArg SOut.fin h
theorem run_seq_exc {N : List Str} {ψ : SFn Unit} {ds : List PyData} {X : Addr} {fs : List (Str × PyData)} {ρ : Dn.Env} (h : ψ (env0 N ds) () = .exc X fs ρ ()) : runP N ψ ds = .exc X fs () := congrArg SOut.fin h
theorem e_quotient_of {t b : Int} {k : Nat} (hb : b ≠ 0) (hk : b.natAbs < 2 ^ k) (k1 : k ≤ 8000) : ∃ a c, Red t b a c ∧ v_quotient_of C [.int t, .int b] = okD (.tuple [.int a, .int c]) := by
  obtain ⟨a, c, r, e⟩ := e_reduced (C := C) (t := t) hb hk k1
  refine ⟨a, c, r, run_seq_ret ?_⟩
  refine Eq.trans (u_seq (u_drop (w_call (w_cons (w_call (w_cons w_var w_nil) rfl rfl (e_is_integer (.int t))) (w_cons w_c w_nil)) rfl rfl (e_need true "top")))) ?_
  have hne : oNeS (.d (.int b)) (.d (.int 0)) = some (.d (.bool true)) := by
    show some (SV.d (.bool (!(b == 0)))) = _
    have : (b == 0) = false := by simpa using hb
    rw [this]
    rfl
  refine Eq.trans (u_seq (u_drop (w_call (w_cons (w_and (p := true) (q := true) (w_call (w_cons w_var w_nil) rfl rfl (e_is_integer (.int b))) fun _ => w_op w_var w_c hne) (w_cons w_c w_nil)) rfl rfl (e_need true "bottom")))) ?_
  exact u_ret (w_call (w_cons w_var (w_cons w_var w_nil)) rfl rfl e)
theorem e_is_quotient (a c : Int) : v_is_quotient C [.tuple [.int a, .int c]] = okB (decide (1 ≤ c) && decide (gcdZ a c = 1)) := by
  refine run_seq_ret ?_
  have hc : (fOr (fNot (fIsi "tuple" (fVar 0))) (fOp oNeS (fCB bLen (aCons (fVar 0) aNil)) (fC (.int 2))) : Fn Unit) (env0 [("thing" : Str)] [.tuple [.int a, .int c]]) () = .ok (.d (.bool false)) () :=
    w_or (w_not (w_isi w_var rfl (isi_tt _))) fun _ => w_op (w_cb (w_cons w_var w_nil) rfl) w_c rfl
  refine Eq.trans (u_seq (Eq.trans (u_ifF hc) u_nil)) ?_
  refine u_ret (w_and2 (w_call (w_cons (w_op w_var w_c rfl) w_nil) rfl rfl (e_is_integer (.int a))) (w_and (p := decide (1 ≤ c)) (q := decide (gcdZ a c = 1)) (w_call (w_cons (w_op w_var w_c rfl) w_nil) rfl rfl (e_is_many (.int c))) fun _ => w_op (w_cb (w_cons (w_op w_var w_c rfl) (w_cons (w_op w_var w_c rfl) w_nil)) rfl) w_c ?_))
  show some (SV.d (.bool ((gcdZ a c : Int) == 1))) = _
  congr 3
  rw [Bool.eq_iff_iff, beq_iff_eq, decide_eq_true_iff]
  omega
abbrev qt (a c : Int) : PyData := .tuple [.int a, .int c]
structure Quo (a c : Int) : Prop where
  pos : 1 ≤ c
  cop : gcdZ a c = 1
theorem Quo.is {a c : Int} (q : Quo a c) : v_is_quotient C [qt a c] = okB true := by
  rw [e_is_quotient, decide_eq_true q.pos, decide_eq_true q.cop]
  rfl
theorem e_need_quotients {a c a' c' : Int} (q : Quo a c) (q' : Quo a' c') : v_need_quotients C [qt a c, qt a' c'] = okD .none := by
  show (SOut.fin _) = _
  refine congrArg SOut.fin (a₂ := .next [some (.d (qt a c)), some (.d (qt a' c'))] ()) ?_
  refine Eq.trans (u_seq (u_drop (w_call (w_cons (w_call (w_cons w_var w_nil) rfl rfl q.is) (w_cons w_c w_nil)) rfl rfl (e_need true "one")))) ?_
  exact u_drop (w_call (w_cons (w_call (w_cons w_var w_nil) rfl rfl q'.is) (w_cons w_c w_nil)) rfl rfl (e_need true "other"))
theorem e_plus {a c a' c' : Int} {k : Nat} (q : Quo a c) (q' : Quo a' c') (ha : a.natAbs < 2 ^ k) (hc : c.natAbs < 2 ^ k) (ha' : a'.natAbs < 2 ^ k) (hc' : c'.natAbs < 2 ^ k) (k0 : 0 < k) (k1 : k ≤ 4000) :
    ∃ x y, Red (a * c' + a' * c) (c * c') x y ∧ v_plus C [qt a c, qt a' c'] = okD (qt x y) := by
  have hb : c * c' ≠ 0 := by
    have := Int.mul_pos (show 0 < c from q.pos) (show 0 < c' from q'.pos)
    omega
  have hbk : (c * c').natAbs < 2 ^ (k + k) := by
    rw [Int.natAbs_mul, Nat.pow_add]
    exact Nat.mul_lt_mul'' hc hc'
  obtain ⟨x, y, r, e⟩ := e_reduced (C := C) (t := a * c' + a' * c) hb hbk (by omega)
  refine ⟨x, y, r, run_seq_ret ?_⟩
  refine Eq.trans (u_seq (u_drop (w_call (w_cons w_var (w_cons w_var w_nil)) rfl rfl (e_need_quotients q q')))) ?_
  exact u_ret (w_call (w_cons (w_op (w_op (w_op w_var w_c rfl) (w_op w_var w_c rfl) (o_mul ha hc' k0 k0 (by omega))) (w_op (w_op w_var w_c rfl) (w_op w_var w_c rfl) (o_mul ha' hc k0 k0 (by omega))) rfl) (w_cons (w_op (w_op w_var w_c rfl) (w_op w_var w_c rfl) (o_mul hc hc' k0 k0 (by omega))) w_nil)) rfl rfl e)
theorem e_times {a c a' c' : Int} {k : Nat} (q : Quo a c) (q' : Quo a' c') (ha : a.natAbs < 2 ^ k) (hc : c.natAbs < 2 ^ k) (ha' : a'.natAbs < 2 ^ k) (hc' : c'.natAbs < 2 ^ k) (k0 : 0 < k) (k1 : k ≤ 4000) :
    ∃ x y, Red (a * a') (c * c') x y ∧ v_times C [qt a c, qt a' c'] = okD (qt x y) := by
  have hb : c * c' ≠ 0 := by
    have := Int.mul_pos (show 0 < c from q.pos) (show 0 < c' from q'.pos)
    omega
  have hbk : (c * c').natAbs < 2 ^ (k + k) := by
    rw [Int.natAbs_mul, Nat.pow_add]
    exact Nat.mul_lt_mul'' hc hc'
  obtain ⟨x, y, r, e⟩ := e_reduced (C := C) (t := a * a') hb hbk (by omega)
  refine ⟨x, y, r, run_seq_ret ?_⟩
  refine Eq.trans (u_seq (u_drop (w_call (w_cons w_var (w_cons w_var w_nil)) rfl rfl (e_need_quotients q q')))) ?_
  exact u_ret (w_call (w_cons (w_op (w_op w_var w_c rfl) (w_op w_var w_c rfl) (o_mul ha ha' k0 k0 (by omega))) (w_cons (w_op (w_op w_var w_c rfl) (w_op w_var w_c rfl) (o_mul hc hc' k0 k0 (by omega))) w_nil)) rfl rfl e)
end K1

set_option Elab.async false
set_option linter.all false
set_option autoImplicit false
set_option maxRecDepth 100000
set_option maxHeartbeats 1000000
namespace Dn
open PySem PySem.Spec PyProof.Rows L2
section
variable {γ : Type} {asg : Asg} {body ψ1 ψ2 : SFn γ} {ρ ρ1 : Dn.Env} {g g1 : γ}
/-- a for that may be left by break -/
theorem loop_brkM {α : Type} (inj : α → PyData) (R : List α → Dn.Env → γ → Prop) (F : Dn.Env → γ → Prop) (h0 : ∀ ρ g, R [] ρ g → F ρ g)
    (hs : ∀ y rest ρ g, R (y :: rest) ρ g → ∃ ρ1 ρ2 g2, asg (inj y) ρ = some ρ1 ∧ ((body ρ1 g = .next ρ2 g2 ∧ R rest ρ2 g2) ∨ (body ρ1 g = .brk ρ2 g2 ∧ F ρ2 g2))) :
    ∀ ys ρ g, R ys ρ g → ∃ ρ' g', loopD asg body (ys.map inj) ρ g = .next ρ' g' ∧ F ρ' g'
  | [], ρ, g, h => ⟨ρ, g, rfl, h0 ρ g h⟩
  | y :: ys, ρ, g, h => by
    obtain ⟨ρ1, ρ2, g2, e1, h2⟩ := hs y ys ρ g h
    rw [List.map_cons]
    unfold loopD
    rw [e1]
    rcases h2 with ⟨e2, h2⟩ | ⟨e2, h2⟩
    · obtain ⟨ρ', g', e3, h3⟩ := loop_brkM inj R F h0 hs ys ρ2 g2 h2
      refine ⟨ρ', g', ?_, h3⟩
      simp only [e2]
      exact e3
    · refine ⟨ρ2, g2, ?_, h2⟩
      simp only [e2]
theorem u_seqB (h : ψ1 ρ g = .brk ρ1 g1) : sSeq ψ1 ψ2 ρ g = .brk ρ1 g1 := by unfold sSeq; rw [h]
theorem u_brk : (sBrk : SFn γ) ρ g = .brk ρ g := rfl
end
theorem v_abs (a : Int) : bAbs [.d (.int a)] = some (.d (.int (a.natAbs : Int))) := by
  show some (SV.d (.int (if a < 0 then -a else a))) = _
  congr 3
  by_cases h : a < 0
  · rw [if_pos h]; omega
  · rw [if_neg h]; omega
theorem o_eqI (i j : Int) : oEqS (.d (.int i)) (.d (.int j)) = some (.d (.bool (decide (i = j)))) := by
  show some (SV.d (.bool (i == j))) = _
  congr 3
theorem o_neI (i j : Int) : oNeS (.d (.int i)) (.d (.int j)) = some (.d (.bool (!decide (i = j)))) := by
  show some (SV.d (.bool (!(i == j)))) = _
  congr 3
theorem o_mod {i j : Int} (h : 0 < j) : oMod (.d (.int i)) (.d (.int j)) = some (.d (.int (i % j))) := by
  show (if 0 < j then some (PyData.int (i % j)) else none).map SV.d = _
  rw [if_pos h]
  rfl
end Dn
namespace K1
open PySem PySem.Spec PyProof.Rows L2 Dn
variable {C : Addr}
/-- where the common divisor stands -/
structure Eu (G : Nat) (r : Nat) (h l : Nat) : Prop where
  g : Nat.gcd h l = G
  few : l = 0 ∨ (l < h ∧ h * l < 2 ^ r) ∨ (1 ≤ r ∧ h * l < 2 ^ (r - 1))
theorem Eu.step {G r : Nat} {h l : Nat} (e : Eu G (r + 1) h l) (n : l ≠ 0) : Eu G r l (h % l) := by
  obtain ⟨g, few⟩ := e
  have m1 := Nat.mod_lt h (show 0 < l by omega)
  refine ⟨?_, ?_⟩
  · rw [← g, Nat.gcd_comm l, ← Nat.gcd_rec, Nat.gcd_comm]
  · rcases few with z | ⟨z1, z2⟩ | ⟨z1, z2⟩
    · exact absurd z n
    · refine .inr (.inl ⟨m1, ?_⟩)
      have ed : l * (h / l) + h % l = h := Nat.div_add_mod h l
      have q1 : 1 ≤ h / l := Nat.div_pos (by omega) (by omega)
      have : 2 * (h % l) ≤ h := by
        have : l * 1 ≤ l * (h / l) := Nat.mul_le_mul_left _ q1
        omega
      have t : l * (2 * (h % l)) ≤ l * h := Nat.mul_le_mul_left _ this
      have e2 : l * (2 * (h % l)) = 2 * (l * (h % l)) := Nat.mul_left_comm _ _ _
      have e3 : l * h = h * l := Nat.mul_comm _ _
      have e4 : 2 ^ (r + 1) = 2 ^ r * 2 := Nat.pow_succ _ _
      omega
    · have z2 : h * l < 2 ^ r := z2
      refine .inr (.inl ⟨m1, ?_⟩)
      have le : h % l ≤ h := Nat.mod_le _ _
      have t : l * (h % l) ≤ l * h := Nat.mul_le_mul_left _ le
      have e3 : l * h = h * l := Nat.mul_comm _ _
      omega
theorem Eu.done {G h l : Nat} (e : Eu G 0 h l) : l = 0 := by
  obtain ⟨_, few⟩ := e
  rcases few with z | ⟨z1, z2⟩ | ⟨z1, _⟩
  · exact z
  · have z2 : h * l < 1 := z2
    rcases Nat.eq_zero_or_pos l with z | z
    · exact z
    · have := Nat.mul_pos (show 0 < h by omega) z
      omega
  · omega
theorem e_common {a b : Int} (h : a.natAbs * b.natAbs < 2 ^ 899) : v__law_common C [.int a, .int b] = okD (.int (gcdZ a b : Int)) := by
  refine run_seq_ret ?_
  have e1 : bAbs [.d (.int a)] = some (.d (.int (a.natAbs : Int))) := v_abs a
  have e2 : bAbs [.d (.int b)] = some (.d (.int (b.natAbs : Int))) := v_abs b
  refine Eq.trans (u_seq (u_set (w_cb (w_cons w_var w_nil) e1))) ?_
  refine Eq.trans (u_seq (u_set (w_cb (w_cons w_var w_nil) e2))) ?_
  have key := loop_brkM (γ := Unit) (asg := asgN 4) (body := sSeq (sIf (fOp oEqS (fVar 3) (fC (.int 0))) sBrk sNil) (sSeq (sAsg 5 (fOp oMod (fCB bInt (aCons (fVar 2) aNil)) (fVar 3))) (sSeq (sAsg 2 (fVar 3)) (sAsg 3 (fVar 5))))) (fun k : Nat => PyData.int k)
    (fun rest ρ _ => ∃ (h l : Nat) (t u : Option SV), ρ = [some (.d (.int a)), some (.d (.int b)), some (.d (.int h)), some (.d (.int l)), t, u] ∧ Eu (gcdZ a b) rest.length h l)
    (fun ρ _ => ∃ (t u : Option SV), ρ = [some (.d (.int a)), some (.d (.int b)), some (.d (.int (gcdZ a b : Int))), some (.d (.int 0)), t, u]) ?_ ?_ (List.range 900) _ () ⟨a.natAbs, b.natAbs, none, none, rfl, rfl, .inr (.inr ⟨by rw [List.length_range]; decide, by rw [List.length_range]; exact h⟩)⟩
  · obtain ⟨ρ', g', e, t, u, rfl⟩ := key
    exact Eq.trans (u_seq (Eq.trans (u_for (w_rng1 (n := 900) (w_cons w_c w_nil) (by decide))) e)) (u_retv rfl)
  · rintro ρ g ⟨h, l, t, u, rfl, E⟩
    have z := E.done
    subst z
    have e : h = gcdZ a b := by rw [← E.g, Nat.gcd_zero_right]
    subst e
    exact ⟨t, u, rfl⟩
  · rintro k rest ρ g ⟨h, l, t, u, rfl, E⟩
    by_cases z : l = 0
    · subst z
      have e : h = gcdZ a b := by rw [← E.g, Nat.gcd_zero_right]
      subst e
      refine ⟨_, _, (), rfl, .inr ⟨u_seqB (Eq.trans (u_ifT (w_op w_var w_c rfl)) u_brk), some (.d (.int (k : Nat))), u, rfl⟩⟩
    · have hc : oEqS (.d (.int (l : Int))) (.d (.int 0)) = some (.d (.bool false)) := by
        rw [o_eqI, decide_eq_false (by omega)]
      have hm : oMod (.d (.int (h : Int))) (.d (.int (l : Int))) = some (.d (.int ((h % l : Nat) : Int))) := o_mod (by omega)
      refine ⟨_, _, (), rfl, .inl ⟨Eq.trans (u_seq (Eq.trans (u_ifF (w_op w_var w_c hc)) u_nil)) (Eq.trans (u_seq (u_set (w_op (w_cb (w_cons w_var w_nil) rfl) w_var hm))) (Eq.trans (u_seq (u_set w_var)) (u_set w_var))), l, h % l, some (.d (.int (k : Nat))), some (.d (.int ((h % l : Nat) : Int))), rfl, E.step z⟩⟩
theorem e_is_worth2 {a c t b : Int} {k : Nat} (pos : 1 ≤ c) (eq : a * b = t * c) (cop : gcdZ a c = 1) (h1 : a.natAbs < 2 ^ k) (h2 : c.natAbs < 2 ^ k) (ht : t.natAbs < 2 ^ k) (hb : b.natAbs < 2 ^ k) (k0 : 0 < k) (k1 : k ≤ 449) : v__law_is_worth C [qt a c, .int t, .int b] = okB true := by
  have hk : a.natAbs * c.natAbs < 2 ^ 899 := by
    have := Nat.mul_lt_mul'' h1 h2
    rw [← Nat.pow_add] at this
    exact Nat.lt_of_lt_of_le this (Nat.pow_le_pow_right (by decide) (by omega))
  have ec := e_common (C := C) hk
  rw [show (gcdZ a c : Int) = 1 by rw [cop]; rfl] at ec
  refine run_seq_ret ?_
  have hc : (fOr (fNot (fIsi "tuple" (fVar 0))) (fOp oNeS (fCB bLen (aCons (fVar 0) aNil)) (fC (.int 2))) : Fn Unit) (env0 [("_law_told" : Str), ("_law_high" : Str), ("_law_low" : Str), ("_law_each" : Str)] [qt a c, .int t, .int b]) () = .ok (.d (.bool false)) () :=
    w_or (w_not (w_isi w_var rfl (isi_tt _))) fun _ => w_op (w_cb (w_cons w_var w_nil) rfl) w_c rfl
  refine Eq.trans (u_seq (Eq.trans (u_ifF hc) u_nil)) ?_
  have isI' : ∀ z : Int, isi "int" (.int z) = some true := fun z => by show kitB "int" "int" = _; decide +kernel
  have isB' : ∀ z : Int, isi "bool" (.int z) = some false := fun z => by show kitB "int" "bool" = _; decide +kernel
  have key := loop_invM (γ := Unit) (asg := asgN 3) (body := sIf (fOr (fNot (fIsi "int" (fVar 3))) (fIsi "bool" (fVar 3))) (sRet (fC (.bool false))) sNil) PyData.int (fun rest ρ _ => ∃ u : Option SV, ρ = [some (.d (qt a c)), some (.d (.int t)), some (.d (.int b)), u])
    (fun y rest ρ g h => by
      obtain ⟨u, rfl⟩ := h
      exact ⟨_, _, (), rfl, Eq.trans (u_ifF (w_or (w_not (w_isi w_var rfl (isI' y))) fun _ => w_isi w_var rfl (isB' y))) u_nil, _, rfl⟩) [a, c] _ () ⟨none, rfl⟩
  obtain ⟨ρ', g', e, u, rfl⟩ := key
  refine Eq.trans (u_seq (Eq.trans (u_for (w_any w_var)) e)) ?_
  have hlt : oLt (.d (.int c)) (.d (.int 1)) = some (.d (.bool false)) := by
    show some (SV.d (.bool (decide (c < 1)))) = _
    rw [decide_eq_false (by omega)]
  refine Eq.trans (u_seq (Eq.trans (u_ifF (w_or (p := false) (q := false) (w_op (w_op w_var w_c rfl) w_c hlt) fun _ => w_op (w_call (w_cons (w_op w_var w_c rfl) (w_cons (w_op w_var w_c rfl) w_nil)) rfl rfl ec) w_c rfl)) u_nil)) ?_
  refine u_ret (w_op (w_op (w_op w_var w_c rfl) w_var (o_mul h1 hb k0 k0 (by omega))) (w_op w_var (w_op w_var w_c rfl) (o_mul ht h2 k0 k0 (by omega))) ?_)
  rw [o_eqI, eq, decide_eq_true rfl]
theorem e_is_worth {a c t b : Int} {k : Nat} (r : Red t b a c) (ht : t.natAbs < 2 ^ k) (hb : b.natAbs < 2 ^ k) (k0 : 0 < k) (k1 : k ≤ 449) : v__law_is_worth C [qt a c, .int t, .int b] = okB true :=
  e_is_worth2 r.pos r.eq r.cop (Nat.lt_of_le_of_lt r.la ht) (Nat.lt_of_le_of_lt r.lc hb) ht hb k0 k1
end K1

set_option Elab.async false
set_option linter.all false
set_option autoImplicit false
set_option maxRecDepth 100000
set_option maxHeartbeats 1000000
namespace Dn
open PySem PySem.Spec PyProof.Rows L2
theorem o_ixl {xs : List PyData} {k : Nat} {d : PyData} (h : xs[k]? = some d) : oIx (.l xs) (.d (.int k)) = some (.d d) := by
  show (atI xs (k : Int)).map SV.d = _
  rw [atI_nat h]
  rfl
end Dn
namespace K1
open PySem PySem.Spec PyProof.Rows L2 Dn
variable {C : Addr}
abbrev Few (g : SrcG) : Prop := g.2.length ≤ 63
theorem drawF_ok {g : SrcG} {top : Int} (h0 : 0 < top) (hl : Few g) : 0 ≤ (drawF g top).1 ∧ (drawF g top).1 < top ∧ Few (drawF g top).2 := by
  unfold drawF
  by_cases c : g.2 = []
  · simp only [if_pos c]
    exact ⟨Int.le_refl _, h0, hl⟩
  · simp only [if_neg c]
    by_cases b : 1000000000000000000 ≤ g.2.getD ((g.1 + 1 + 2) % (g.2.length : Int)).toNat 0
    · rw [if_pos b]
      refine ⟨Int.emod_nonneg _ (by omega), Int.emod_lt_of_pos _ h0, ?_⟩
      show (g.2.set _ _).length ≤ 63
      rw [List.length_set]
      exact hl
    · rw [if_neg b]
      exact ⟨Int.emod_nonneg _ (by omega), Int.emod_lt_of_pos _ h0, hl⟩
theorem e_draw {g : SrcG} {top : Int} (h0 : 0 < top) (h1 : top < 1073741824) (hl : Few g) : ∃ z g', v__law_draw C [.h, .d (.int top)] g = .ok (.d (.int z)) g' ∧ 0 ≤ z ∧ z < top ∧ Few g' := by
  obtain ⟨a, b, c⟩ := drawF_ok h0 hl
  refine ⟨_, _, ?_, a, b, c⟩
  have hc : 0 < top ∧ top < 1073741824 ∧ 0 < g.2.length ∧ g.2.length ≤ 63 ∨ g.2 = [] := by
    by_cases e : g.2 = []
    · exact .inr e
    · exact .inl ⟨h0, h1, List.length_pos_iff.mpr e, hl⟩
  show (if 0 < top ∧ top < 1073741824 ∧ 0 < g.2.length ∧ g.2.length ≤ 63 ∨ g.2 = [] then Out.ok (SV.d (.int (drawF g top).1)) (drawF g top).2 else .stuck) = _
  rw [if_pos hc]
/-- the draw in an expression -/
theorem w_draw {ρ : Dn.Env} {g : SrcG} {top : Int} {i : Nat} (hi : ρ[i]? = some (some .h)) {φ : Fn SrcG} (ht : φ ρ g = .ok (.d (.int top)) g) (h0 : 0 < top) (h1 : top < 1073741824) (hl : Few g) :
    ∃ z g', (fCallS 2 (v__law_draw C) (aCons (fVar i) (aCons φ aNil)) : Fn SrcG) ρ g = .ok (.d (.int z)) g' ∧ 0 ≤ z ∧ z < top ∧ Few g' := by
  obtain ⟨z, g', e, a, b, c⟩ := e_draw (C := C) h0 h1 hl
  exact ⟨z, g', w_callS (w_cons (w_varH hi) (w_cons ht w_nil)) rfl rfl e, a, b, c⟩
theorem run_s {N : List Str} {ψ : SFn SrcG} {ys : List SV} {g g' : SrcG} {y : SV} (h : ψ (envS N ys) g = .ret y g') : runS N ψ ys g = .ok y g' := congrArg SOut.fin h
theorem e_number {g : SrcG} {n : Nat} (hn : n ≤ 20) (hl : Few g) : ∃ z g', v__law_number C [.h, .d (.int n)] g = .ok (.d (.int z)) g' ∧ 0 ≤ z ∧ z < 1000 ^ n ∧ Few g' := by
  have key := loop_invM (γ := SrcG) (asg := asgN 3) (body := sAsg 2 (fOp oAdd (fOp oMul (fVar 2) (fC (.int 1000))) (fCallS 2 (v__law_draw C) (aCons (fVar 0) (aCons (fC (.int 1000)) aNil))))) (fun k : Nat => PyData.int k)
    (fun rest ρ g => ∃ (z : Int) (t : Option SV), ρ = [some .h, some (.d (.int n)), some (.d (.int z)), t] ∧ 0 ≤ z ∧ z < 1000 ^ (n - rest.length) ∧ rest.length ≤ n ∧ Few g) ?_ (List.range n) [some .h, some (.d (.int n)), some (.d (.int 0)), none] g ⟨0, none, rfl, by decide, by rw [List.length_range, Nat.sub_self]; decide, by rw [List.length_range]; exact Nat.le_refl _, hl⟩
  · obtain ⟨ρ', g', e, z, t, rfl, a, b, _, c⟩ := key
    refine ⟨z, g', run_s ?_, a, b, c⟩
    refine Eq.trans (u_seq (u_set w_c)) ?_
    exact Eq.trans (u_seq (Eq.trans (u_for (w_rng1 (w_cons w_var w_nil) (by omega))) e)) (u_retv rfl)
  · rintro k rest ρ g ⟨z, t, rfl, a, b, hr, c⟩
    have hr' : rest.length + 1 ≤ n := hr
    obtain ⟨d, g', ed, d0, d1, cg⟩ := w_draw (C := C) (ρ := [some .h, some (.d (.int n)), some (.d (.int z)), some (.d (.int (k : Nat)))]) (g := g) (i := 0) rfl (φ := fC (.int 1000)) w_c (by decide) (by decide) c
    have b : z < 1000 ^ (n - (rest.length + 1)) := b
    have hm : ∀ j : Nat, j ≤ 19 → (1000 : Int) ^ j < 2 ^ 200 := by decide +kernel
    have zb : z.natAbs < 2 ^ 200 := by
      have h1 := hm (n - (rest.length + 1)) (by omega)
      have h2 : z < 2 ^ 200 := Int.lt_trans b h1
      have h3 : (z.natAbs : Int) < ((2 ^ 200 : Nat) : Int) := by
        rw [Int.natAbs_of_nonneg a]
        exact h2
      exact Int.ofNat_lt.mp h3
    refine ⟨_, _, g', rfl, u_set (w_op (w_op w_var w_c (o_mul zb (b := 10) (by decide) (by decide) (by decide) (by decide))) ed rfl), z * 1000 + d, some (.d (.int (k : Nat))), rfl, by omega, ?_, by omega, cg⟩
    have e : n - rest.length = (n - (rest.length + 1)) + 1 := by omega
    rw [e, Int.pow_succ]
    omega
/-! the sizes that are drawn -/
theorem pick5 {z : Int} (h0 : 0 ≤ z) (h1 : z < 5) : ∃ (k : Nat) (s : Int), z = k ∧ ([.int 2, .int 3, .int 1, .int 4, .int 2] : List PyData)[k]? = some (.int s) ∧ 1 ≤ s ∧ s ≤ 4 := by
  obtain ⟨k, rfl⟩ : ∃ k : Nat, z = k := ⟨z.toNat, by omega⟩
  match k, (show k < 5 by omega) with
  | 0, _ => exact ⟨0, 2, rfl, rfl, by decide, by decide⟩
  | 1, _ => exact ⟨1, 3, rfl, rfl, by decide, by decide⟩
  | 2, _ => exact ⟨2, 1, rfl, rfl, by decide, by decide⟩
  | 3, _ => exact ⟨3, 4, rfl, rfl, by decide, by decide⟩
  | 4, _ => exact ⟨4, 2, rfl, rfl, by decide, by decide⟩
theorem pick8 {z : Int} (h0 : 0 ≤ z) (h1 : z < 8) : ∃ (k : Nat) (n : Nat), z = k ∧ ([.int 4, .int 3, .int 6, .int 2, .int 5, .int 1, .int 3, .int 4] : List PyData)[k]? = some (.int n) ∧ 1 ≤ n ∧ n ≤ 6 := by
  obtain ⟨k, rfl⟩ : ∃ k : Nat, z = k := ⟨z.toNat, by omega⟩
  match k, (show k < 8 by omega) with
  | 0, _ => exact ⟨0, 4, rfl, rfl, by decide, by decide⟩
  | 1, _ => exact ⟨1, 3, rfl, rfl, by decide, by decide⟩
  | 2, _ => exact ⟨2, 6, rfl, rfl, by decide, by decide⟩
  | 3, _ => exact ⟨3, 2, rfl, rfl, by decide, by decide⟩
  | 4, _ => exact ⟨4, 5, rfl, rfl, by decide, by decide⟩
  | 5, _ => exact ⟨5, 1, rfl, rfl, by decide, by decide⟩
  | 6, _ => exact ⟨6, 3, rfl, rfl, by decide, by decide⟩
  | 7, _ => exact ⟨7, 4, rfl, rfl, by decide, by decide⟩
theorem o_divP {i j : Int} (h0 : 0 < j) (h1 : j ≤ 1000) : oDiv (.d (.int i)) (.d (.int j)) = some (.d (.int (i / j))) := by
  have hl : j.natAbs.log2 < 9000 := Nat.lt_of_lt_of_le (log_lt (a := 10) (by omega) (by decide)) (by decide)
  show (if j ≠ 0 ∧ j.natAbs.log2 < 9000 then some (PyData.int (i.fdiv j)) else none).map SV.d = _
  rw [if_pos ⟨by omega, hl⟩, Int.fdiv_eq_ediv_of_nonneg _ (by omega)]
  rfl
theorem prod_snoc (a : List Int) (s : Int) : prodZ (a ++ [s]) = prodZ a * s := by
  rw [prod_app]
  show prodZ a * (s * 1) = _
  rw [Int.mul_one]
theorem e_sizes {g : SrcG} (hl : Few g) : ∃ ns g', v__law_sizes C [.h] g = .ok (.d (tI ns)) g' ∧ Sz ns ∧ ns ≠ [] ∧ Few g' := by
  obtain ⟨d, g1, ed, d0, d1, cg⟩ := w_draw (C := C) (ρ := envS [("_law_source" : Str), ("_law_n" : Str), ("_law_sizes_here" : Str), ("_law_room" : Str), ("_law_k" : Str), ("_law_size" : Str)] [.h]) (g := g) (i := 0) rfl (φ := fC (.int 8)) w_c (by decide) (by decide) hl
  obtain ⟨k, n, rfl, en, n1, n6⟩ := pick8 d0 d1
  have key := loop_invM (γ := SrcG) (asg := asgN 4) (body := sSeq (sAsg 5 (fOp oIx (fLst (aCons (fC (.int 2)) (aCons (fC (.int 3)) (aCons (fC (.int 1)) (aCons (fC (.int 4)) (aCons (fC (.int 2)) aNil)))))) (fCallS 2 (v__law_draw C) (aCons (fVar 0) (aCons (fC (.int 5)) aNil))))) (sSeq (sIf (fOp oGt (fVar 5) (fVar 3)) (sAsg 5 (fC (.int 1))) sNil) (sSeq (sAsg 3 (fOp oDiv (fVar 3) (fVar 5))) (sApp 2 (fVar 5))))) (fun k : Nat => PyData.int k)
    (fun rest ρ g => ∃ (ns : List Int) (room : Int) (t u : Option SV), ρ = [some .h, some (.d (.int n)), some (.l (ns.map PyData.int)), some (.d (.int room)), t, u] ∧ (∀ s ∈ ns, 1 ≤ s ∧ s ≤ 4) ∧ ns.length + rest.length = n ∧ 1 ≤ room ∧ prodZ ns * room ≤ 64 ∧ Few g) ?_ (List.range n) [some .h, some (.d (.int n)), some (.l []), some (.d (.int 64)), none, none] g1
    ⟨[], 64, none, none, rfl, (fun _ h => by cases h), (by rw [List.length_range]; exact Nat.zero_add _), by decide, by decide, cg⟩
  · obtain ⟨ρ', g', e, ns, room, t, u, rfl, h1, h2, h3, h4, h5⟩ := key
    have h2 : ns.length = n := h2
    have p1 := prod_pos h1
    refine ⟨ns, g', run_s ?_, ⟨h1, by omega, le_of_mul h4 p1 h3⟩, fun z => by rw [z] at h2; simp at h2; omega, h5⟩
    refine Eq.trans (u_seq (u_set (w_op (w_lst (w_cons w_c (w_cons w_c (w_cons w_c (w_cons w_c (w_cons w_c (w_cons w_c (w_cons w_c (w_cons w_c w_nil)))))))) rfl (by decide)) ed (o_ixl en)))) ?_
    refine Eq.trans (u_seq (u_set (w_lst w_nil rfl (by decide)))) ?_
    refine Eq.trans (u_seq (u_set w_c)) ?_
    refine Eq.trans (u_seq (Eq.trans (u_for (w_rng1 (w_cons w_var w_nil) (by omega))) e)) ?_
    exact u_ret (w_cb (w_cons w_varL w_nil) rfl)
  · rintro k rest ρ g ⟨ns, room, t, u, rfl, h1, h2, h3, h4, h5⟩
    have h2' : ns.length + (rest.length + 1) = n := h2
    obtain ⟨d, g1, ed, d0, d1, cg⟩ := w_draw (C := C) (ρ := [some .h, some (.d (.int n)), some (.l (ns.map PyData.int)), some (.d (.int room)), some (.d (.int (k : Nat))), u]) (g := g) (i := 0) rfl (φ := fC (.int 5)) w_c (by decide) (by decide) h5
    obtain ⟨j, s, rfl, es, s1, s4⟩ := pick5 d0 d1
    have p1 := prod_pos h1
    have fin : ∀ s : Int, 1 ≤ s → s ≤ 4 → s ≤ room → sSeq (sAsg 3 (fOp oDiv (fVar 3) (fVar 5))) (sApp 2 (fVar 5)) [some .h, some (.d (.int n)), some (.l (ns.map PyData.int)), some (.d (.int room)), some (.d (.int (k : Nat))), some (.d (.int s))] g1 =
        .next [some .h, some (.d (.int n)), some (.l ((ns ++ [s]).map PyData.int)), some (.d (.int (room / s))), some (.d (.int (k : Nat))), some (.d (.int s))] g1 ∧ (∀ x ∈ ns ++ [s], 1 ≤ x ∧ x ≤ 4) ∧ (ns ++ [s]).length + rest.length = n ∧ 1 ≤ room / s ∧ prodZ (ns ++ [s]) * (room / s) ≤ 64 := fun s a1 a4 ar => by
      refine ⟨?_, fun x hx => ?_, by rw [List.length_append]; show ns.length + 1 + rest.length = n; omega, ?_, ?_⟩
      · refine Eq.trans (u_seq (u_set (w_op w_var w_var (o_divP (by omega) (by omega))))) ?_
        rw [List.map_append]
        exact u_app (xs := ns.map PyData.int) rfl w_var (by rw [List.length_map]; omega)
      · rcases List.mem_append.mp hx with z | z
        · exact h1 x z
        · rw [List.mem_singleton.mp z]; exact ⟨a1, a4⟩
      · exact Int.le_ediv_of_mul_le (by omega) (by omega)
      · rw [prod_snoc, Int.mul_assoc]
        have : s * (room / s) ≤ room := Int.mul_ediv_self_le (by omega)
        have := Int.mul_le_mul_of_nonneg_left this (show 0 ≤ prodZ ns by omega)
        omega
    have first := u_set (i := 5) (ρ := [some .h, some (.d (.int n)), some (.l (ns.map PyData.int)), some (.d (.int room)), some (.d (.int (k : Nat))), u]) (w_op (w_lst (g := g) (w_cons w_c (w_cons w_c (w_cons w_c (w_cons w_c (w_cons w_c w_nil))))) rfl (by decide)) ed (o_ixl es))
    by_cases c : room < s
    · have hc : (fOp oGt (fVar 5) (fVar 3) : Fn SrcG) [some .h, some (.d (.int n)), some (.l (ns.map PyData.int)), some (.d (.int room)), some (.d (.int (k : Nat))), some (.d (.int s))] g1 = .ok (.d (.bool true)) g1 := w_op w_var w_var (by
        show some (SV.d (.bool (decide (s > room)))) = _
        rw [decide_eq_true c])
      obtain ⟨f1, f2, f3, f4, f5⟩ := fin 1 (by decide) (by decide) h3
      exact ⟨_, _, g1, rfl, Eq.trans (u_seq first) (Eq.trans (u_seq (Eq.trans (u_ifT hc) (u_set w_c))) f1), _, _, _, _, rfl, f2, f3, f4, f5, cg⟩
    · have hc : (fOp oGt (fVar 5) (fVar 3) : Fn SrcG) [some .h, some (.d (.int n)), some (.l (ns.map PyData.int)), some (.d (.int room)), some (.d (.int (k : Nat))), some (.d (.int s))] g1 = .ok (.d (.bool false)) g1 := w_op w_var w_var (by
        show some (SV.d (.bool (decide (s > room)))) = _
        rw [decide_eq_false (by omega)])
      obtain ⟨f1, f2, f3, f4, f5⟩ := fin s s1 s4 (by omega)
      exact ⟨_, _, g1, rfl, Eq.trans (u_seq first) (Eq.trans (u_seq (Eq.trans (u_ifF hc) u_nil)) f1), _, _, _, _, rfl, f2, f3, f4, f5, cg⟩
end K1

set_option Elab.async false
set_option linter.all false
set_option autoImplicit false
set_option maxRecDepth 100000
set_option maxHeartbeats 1000000
namespace K1
open PySem PySem.Spec PyProof.Rows L2 Dn
variable {C : Addr}
theorem drop_range {n i k : Nat} {rest : List Nat} (h : k :: rest = (List.range n).drop i) : k = i ∧ rest = (List.range n).drop (i + 1) ∧ i < n := by
  have hi : i < n := by
    have := congrArg List.length h
    rw [List.length_drop, List.length_range, List.length_cons] at this
    omega
  rw [List.drop_eq_getElem_cons (by rw [List.length_range]; exact hi)] at h
  injection h with e1 e2
  rw [List.getElem_range] at e1
  exact ⟨e1, e2, hi⟩
theorem drop_done {n i : Nat} (h : ([] : List Nat) = (List.range n).drop i) (hi : i ≤ n) : i = n := by
  have := congrArg List.length h
  rw [List.length_drop, List.length_range, List.length_nil] at this
  omega
theorem rev_get {ns : List Int} {k : Nat} (h : k < ns.length) : ns[ns.length - 1 - k]? = ns.reverse[k]? := by
  rw [List.getElem?_reverse h]
theorem e_counted {ns : List Int} (S : Sz ns) (p : Int) : v__law_counted C [tI ns, .int p] = okD (tI (digits ns p)) := by
  have key := loop_invM (γ := Unit) (asg := asgN 4) (body := sSeq (sAsg 5 (fOp oIx (fVar 0) (fOp oSub (fOp oSub (fCB bLen (aCons (fVar 0) aNil)) (fC (.int 1))) (fVar 4)))) (sSeq (sApp 3 (fOp oMod (fCB bInt (aCons (fVar 2) aNil)) (fVar 5))) (sAsg 2 (fOp oDiv (fVar 2) (fVar 5))))) (fun k : Nat => PyData.int k)
    (fun rest ρ _ => ∃ (q : Int) (cs : List Int) (t u : Option SV), ρ = [some (.d (tI ns)), some (.d (.int p)), some (.d (.int q)), some (.l (cs.map PyData.int)), t, u] ∧ rest = (List.range ns.length).drop cs.length ∧ cs.length ≤ ns.length ∧ cs ++ digR (ns.reverse.drop cs.length) q = digR ns.reverse p) ?_ (List.range ns.length)
    [some (.d (tI ns)), some (.d (.int p)), some (.d (.int p)), some (.l []), none, none] () ⟨p, [], none, none, rfl, rfl, Nat.zero_le _, rfl⟩
  · obtain ⟨ρ', g', e, q, cs, t, u, rfl, h1, h2, h3⟩ := key
    have hl := drop_done h1 h2
    have h4 : ns.reverse.drop cs.length = [] := List.drop_eq_nil_of_le (by rw [List.length_reverse]; omega)
    rw [h4] at h3
    have h3 : cs ++ [] = digR ns.reverse p := h3
    rw [List.append_nil] at h3
    subst h3
    refine run_seq_ret ?_
    refine Eq.trans (u_seq (u_set w_var)) ?_
    refine Eq.trans (u_seq (u_set (w_lst w_nil rfl (by decide)))) ?_
    have elen : (fCB bLen (aCons (fVar 0) aNil) : Fn Unit) [some (.d (tI ns)), some (.d (.int p)), some (.d (.int p)), some (.l []), none, none] () = .ok (.d (.int (ns.length : Int))) () := w_cb (w_cons w_var w_nil) (by
      show some (SV.d (.int ((ns.map PyData.int).length : Int))) = _
      rw [List.length_map])
    refine Eq.trans (u_seq (Eq.trans (u_for (w_rng1 (w_cons elen w_nil) (by have := S.len; omega))) e)) ?_
    refine Eq.trans (u_seq (u_revs rfl)) ?_
    refine Eq.trans (u_ret (w_cb (w_cons w_varL w_nil) rfl)) ?_
    show SOut.ret (.d (.tuple ((digR ns.reverse p).map PyData.int).reverse)) () = _
    rw [← List.map_reverse]
    rfl
  · rintro k rest ρ g ⟨q, cs, t, u, rfl, h1, h2, h3⟩
    obtain ⟨rfl, hr, hi⟩ := drop_range h1
    have hs : ns.reverse[cs.length]? = some (ns.reverse[cs.length]'(by rw [List.length_reverse]; exact hi)) := List.getElem?_eq_getElem _
    obtain ⟨s, es⟩ : ∃ s, ns.reverse[cs.length]'(by rw [List.length_reverse]; exact hi) = s := ⟨_, rfl⟩
    have hd : ns.reverse.drop cs.length = s :: ns.reverse.drop (cs.length + 1) := by
      rw [List.drop_eq_getElem_cons (by rw [List.length_reverse]; exact hi), es]
    rw [es] at hs
    have sm : s ∈ ns := List.mem_reverse.mp (List.mem_of_getElem? hs)
    obtain ⟨s1, s4⟩ := S.all s sm
    rw [hd] at h3
    have h3 : cs ++ ((q % s) :: digR (ns.reverse.drop (cs.length + 1)) (q / s)) = digR ns.reverse p := h3
    have elen : (fCB bLen (aCons (fVar 0) aNil) : Fn Unit) [some (.d (tI ns)), some (.d (.int p)), some (.d (.int q)), some (.l (cs.map PyData.int)), some (.d (.int (cs.length : Nat))), u] () = .ok (.d (.int (ns.length : Int))) () := w_cb (w_cons w_var w_nil) (by
      show some (SV.d (.int ((ns.map PyData.int).length : Int))) = _
      rw [List.length_map])
    have eix : oIx (.d (tI ns)) (.d (.int ((ns.length : Int) - 1 - (cs.length : Nat)))) = some (.d (.int s)) := by
      have : (ns.length : Int) - 1 - (cs.length : Nat) = ((ns.length - 1 - cs.length : Nat) : Int) := by omega
      rw [this]
      refine o_ixT ?_
      rw [List.getElem?_map, rev_get hi, hs]
      rfl
    refine ⟨_, _, (), rfl, Eq.trans (u_seq (u_set (w_op w_var (w_op (w_op elen w_c rfl) w_var rfl) eix))) (Eq.trans (u_seq (u_app (xs := cs.map PyData.int) rfl (w_op (w_cb (w_cons w_var w_nil) rfl) w_var (o_mod (by omega))) (by rw [List.length_map]; have := S.len; omega))) (u_set (w_op w_var w_var (o_divP (by omega) (by omega))))), q / s, cs ++ [q % s], some (.d (.int (cs.length : Nat))), some (.d (.int s)), ?_, ?_, ?_, ?_⟩
    · rw [List.map_append]; rfl
    · rw [hr, List.length_append]; rfl
    · rw [List.length_append]; exact hi
    · rw [List.length_append, List.append_assoc]
      exact h3
/-! lots -/
def lotsN : Nat → List (List Nat)
  | 0 => [[]]
  | n + 1 => lotsN n ++ (lotsN n).map (· ++ [n])
theorem lotsN_ok : ∀ (n : Nat), n ≤ 6 → ∀ l ∈ lotsN n, l.Pairwise (· < ·) ∧ (∀ h ∈ l, h < n) ∧ l.length ≤ n
  | 0, _, l, h => by
    rw [List.mem_singleton.mp h]
    exact ⟨.nil, (fun _ z => by cases z), Nat.le_refl _⟩
  | n + 1, hn, l, h => by
    rcases List.mem_append.mp h with z | z
    · obtain ⟨a, b, c⟩ := lotsN_ok n (by omega) l z
      exact ⟨a, fun x hx => Nat.lt_succ_of_lt (b x hx), Nat.le_succ_of_le c⟩
    · obtain ⟨m, hm, rfl⟩ := List.mem_map.mp z
      obtain ⟨a, b, c⟩ := lotsN_ok n (by omega) m hm
      refine ⟨List.pairwise_append.mpr ⟨a, List.pairwise_singleton _ _, fun x hx y hy => by rw [List.mem_singleton.mp hy]; exact b x hx⟩, fun x hx => ?_, by rw [List.length_append]; exact Nat.succ_le_succ c⟩
      rcases List.mem_append.mp hx with q | q
      · exact Nat.lt_succ_of_lt (b x q)
      · rw [List.mem_singleton.mp q]; exact Nat.lt_succ_self _
theorem lotsN_len : ∀ n, (lotsN n).length = 2 ^ n
  | 0 => rfl
  | n + 1 => by
    show (lotsN n ++ (lotsN n).map _).length = _
    rw [List.length_append, List.length_map, lotsN_len n, Nat.pow_succ]
    omega
theorem lot_of {n : Nat} (hn : n ≤ 6) {l : List Nat} (h : l ∈ lotsN n) : Lot n l := by
  obtain ⟨a, b, c⟩ := lotsN_ok n hn l h
  exact ⟨a, b, by omega⟩
theorem e_lots {n : Nat} (hn : n ≤ 6) : v__law_lots C [.int n] = .ok (.l ((lotsN n).map tN)) () := by
  have key := loop_invM (γ := Unit) (asg := asgN 2) (body := sFrz 1 (sAsg 1 (fOp oAddL (fVar 1) (fLc [3] (iAny (fVar 1)) (asgN 3) fYes (fOp oAdd (fVar 3) (fTup (aCons (fVar 2) aNil))))))) (fun k : Nat => PyData.int k)
    (fun rest ρ _ => ∃ (i : Nat) (t : Option SV), ρ = [some (.d (.int n)), some (.l ((lotsN i).map tN)), t, none] ∧ rest = (List.range n).drop i ∧ i ≤ n) ?_ (List.range n) [some (.d (.int n)), some (.l [tN []]), none, none] () ⟨0, none, rfl, rfl, Nat.zero_le _⟩
  · obtain ⟨ρ', g', e, i, t, rfl, h1, h2⟩ := key
    have := drop_done h1 h2
    subst this
    refine run_seq_ret ?_
    refine Eq.trans (u_seq (u_set (w_lst (w_cons (w_tup w_nil rfl (by decide)) w_nil) rfl (show 1 ≤ 1000 by decide)))) ?_
    exact Eq.trans (u_seq (Eq.trans (u_for (w_rng1 (w_cons w_var w_nil) (by omega))) e)) (u_retv rfl)
  · rintro k rest ρ g ⟨i, t, rfl, h1, h2⟩
    obtain ⟨rfl, hr, hi⟩ := drop_range h1
    have hlen : (lotsN k).length ≤ 64 := by
      rw [lotsN_len]
      exact Nat.le_trans (Nat.pow_le_pow_right (by decide) (show k ≤ 6 by omega)) (by decide)
    have ecomp : (fLc [3] (iAny (fVar 1)) (asgN 3) fYes (fOp oAdd (fVar 3) (fTup (aCons (fVar 2) aNil))) : Fn Unit) [some (.d (.int n)), some (.d (.list ((lotsN k).map tN))), some (.d (.int (k : Nat))), none] () = .ok (.l ((lotsN k).map fun l => tN (l ++ [k]))) () := by
      refine w_lc (lotsN k) tN (fun l => tN (l ++ [k])) (w_anyL w_var) (by omega) fun l hl => ⟨[some (.d (.int n)), some (.d (.list ((lotsN k).map tN))), some (.d (.int (k : Nat))), some (.d (tN l))], rfl, w_op w_var (w_tup (w_cons w_var w_nil) rfl (show 1 ≤ 1000 by decide)) ?_⟩
      have hlk := (lotsN_ok k (by omega) l hl).2.2
      show (if (l.map fun k : Nat => PyData.int k).length + 1 ≤ 100000 then some (SV.d (.tuple ((l.map fun k : Nat => PyData.int k) ++ [.int (k : Nat)]))) else none) = _
      rw [List.length_map, if_pos (by omega)]
      show _ = some (SV.d (.tuple ((l ++ [k]).map fun k : Nat => PyData.int k)))
      rw [List.map_append]
      rfl
    refine ⟨_, _, (), rfl, u_set (ρ := [some (.d (.int n)), some (.d (.list ((lotsN k).map tN))), some (.d (.int (k : Nat))), none]) (x := .l ((lotsN (k + 1)).map tN)) (w_op w_var ecomp ?_), k + 1, some (.d (.int (k : Nat))), rfl, hr, hi⟩
    show (if ((lotsN k).map tN).length + ((lotsN k).map fun l => tN (l ++ [k])).length ≤ 100000 then some (SV.l ((lotsN k).map tN ++ (lotsN k).map fun l => tN (l ++ [k]))) else none) = _
    rw [List.length_map, List.length_map, if_pos (by omega)]
    show _ = some (SV.l ((lotsN k ++ (lotsN k).map (· ++ [k])).map tN))
    rw [List.map_append, List.map_map]
    rfl
end K1

set_option Elab.async false
set_option linter.all false
set_option autoImplicit false
set_option maxRecDepth 100000
set_option maxHeartbeats 1000000
namespace K1
open PySem PySem.Spec PyProof.Rows L2 Dn
variable {C : Addr}
/-! ### repr of small data -/
abbrev Sm (z : Int) : Prop := 0 ≤ z ∧ z ≤ 99
theorem sm_short {z : Int} (h : Sm z) : (PyData.int z).intsShort 13 = true ∧ (PyData.int z).showable = true ∧ (PyData.int z).weight ≤ 8 := by
  obtain ⟨k, rfl⟩ : ∃ k : Nat, z = k := ⟨z.toNat, by omega⟩
  have key : ∀ k : Nat, k < 100 → (PyData.int (k : Int)).intsShort 13 = true ∧ (PyData.int (k : Int)).showable = true ∧ (PyData.int (k : Int)).weight ≤ 8 := by decide +kernel
  exact key k (by omega)
/-- what may be shown: w its weight -/
structure Shy (d : PyData) (w : Nat) : Prop where
  lay : d.canLay0 = true
  dep : d.depth ≤ 10
  wt : d.weight ≤ w
  ish : d.intsShort 13 = true
  shw : d.showable = true
theorem Shy.repr {d : PyData} {w : Nat} (h : Shy d w) (hw : w ≤ 1000000) : d.showable = true ∧ d.depth ≤ 60 ∧ d.shown.length ≤ sizeLine := by
  refine ⟨h.shw, Nat.le_trans h.dep (by decide), ?_⟩
  have l : PyData.layable0 d = true := by
    unfold PyData.layable0
    rw [h.lay, decide_eq_true (Nat.le_trans h.dep (by decide)), decide_eq_true (Nat.le_trans h.wt (Nat.le_trans hw (by decide)))]
    rfl
  exact Nat.le_trans (shown_le13 l h.ish) (by decide)
theorem shy_int {z : Int} (h : Sm z) : Shy (.int z) 8 := by
  obtain ⟨a, b, c⟩ := sm_short h
  exact ⟨rfl, Nat.zero_le _, c, a, b⟩
theorem shy_all : ∀ (ds : List PyData) (w : Nat), (∀ d ∈ ds, Shy d w ∧ d.depth ≤ 8) → PyData.canLayAll0 ds = true ∧ PyData.depthAll ds ≤ 8 ∧ PyData.weightAll ds ≤ ds.length * (w + 1) ∧ PyData.intsShortAll 13 ds = true ∧ PyData.showableAll ds = true
  | [], w, _ => ⟨rfl, Nat.zero_le _, by simp [PyData.weightAll], rfl, rfl⟩
  | d :: r, w, h => by
    obtain ⟨⟨a1, a2, a3, a4, a5⟩, a6⟩ := h d List.mem_cons_self
    obtain ⟨b1, b2, b3, b4, b5⟩ := shy_all r w fun x hx => h x (List.mem_cons_of_mem _ hx)
    refine ⟨?_, ?_, ?_, ?_, ?_⟩
    · show (d.canLay0 && PyData.canLayAll0 r) = true
      rw [a1, b1]; rfl
    · show max d.depth (PyData.depthAll r) ≤ 8
      omega
    · have e : PyData.weightAll (d :: r) ≤ d.weight + 1 + PyData.weightAll r := by
        simp [PyData.weightAll]
        try omega
      rw [List.length_cons, Nat.succ_mul]
      omega
    · show (d.intsShort 13 && PyData.intsShortAll 13 r) = true
      rw [a4, b4]; rfl
    · show (d.showable && PyData.showableAll r) = true
      rw [a5, b5]; rfl
theorem shy_tup {ds : List PyData} {w : Nat} (h : ∀ d ∈ ds, Shy d w ∧ d.depth ≤ 8) : Shy (.tuple ds) (ds.length * (w + 1)) ∧ Shy (.list ds) (ds.length * (w + 1)) := by
  obtain ⟨b1, b2, b3, b4, b5⟩ := shy_all ds w h
  exact ⟨⟨b1, by show PyData.depthAll ds + 1 ≤ 10; omega, b3, b4, b5⟩, ⟨b1, by show PyData.depthAll ds + 1 ≤ 10; omega, b3, b4, b5⟩⟩
theorem shy_tI {cs : List Int} (hc : ∀ c ∈ cs, Sm c) : Shy (tI cs) (cs.length * 9) ∧ (tI cs).depth ≤ 1 := by
  have h : ∀ d ∈ cs.map PyData.int, Shy d 8 ∧ d.depth ≤ 8 := fun d hd => by
    obtain ⟨c, hc', rfl⟩ := List.mem_map.mp hd
    exact ⟨shy_int (hc c hc'), Nat.zero_le _⟩
  have := (shy_tup h).1
  rw [List.length_map] at this
  refine ⟨this, ?_⟩
  have dp : ∀ cs : List Int, PyData.depthAll (cs.map PyData.int) = 0 := fun cs => by
    induction cs with
    | nil => rfl
    | cons c r ih =>
      show max 0 (PyData.depthAll (r.map PyData.int)) = 0
      rw [ih]
      rfl
  show PyData.depthAll (cs.map PyData.int) + 1 ≤ 1
  rw [dp]
  exact Nat.le_refl _
theorem v_repr {d : PyData} {w : Nat} (h : Shy d w) (hw : w ≤ 1000000) : bRepr [.d d] = some (.d (.str d.shown)) := by
  show (if d.showable = true ∧ d.depth ≤ 60 ∧ d.shown.length ≤ sizeLine then some (SV.d (.str d.shown)) else none) = _
  rw [if_pos (h.repr hw)]
theorem v_reprL {ds : List PyData} {w : Nat} (h : Shy (.list ds) w) (hw : w ≤ 1000000) : bRepr [.l ds] = some (.d (.str (PyData.list ds).shown)) := by
  show (if (PyData.list ds).showable = true ∧ (PyData.list ds).depth ≤ 60 ∧ (PyData.list ds).shown.length ≤ sizeLine then some (SV.d (.str (PyData.list ds).shown)) else none) = _
  rw [if_pos (h.repr hw)]
theorem o_neS (s : Str) : oNeS (.d (.str s)) (.d (.str s)) = some (.d (.bool false)) := by
  show some (SV.d (.bool (!decide (s = s)))) = _
  rw [decide_eq_true rfl]
  rfl
theorem o_eqS (s : Str) : oEqS (.d (.str s)) (.d (.str s)) = some (.d (.bool true)) := by
  show some (SV.d (.bool (decide (s = s)))) = _
  rw [decide_eq_true rfl]
/-! ### all settings -/
def allOf (ns : List Int) (n : Nat) : List PyData := (List.range n).map fun k : Nat => tI (digits ns k)
theorem digits_small {ns : List Int} (S : Sz ns) (p : Int) : ∀ c ∈ digits ns p, Sm c := by
  intro c hc
  obtain ⟨i, hi⟩ := List.getElem?_of_mem hc
  have hl : i < ns.length := by
    have := (List.getElem?_eq_some_iff.mp hi).1
    rw [digits_len] at this
    exact this
  have hz : (ns.zip (digits ns p))[i]? = some (ns[i], c) := by
    rw [List.getElem?_zip_eq_some]
    exact ⟨List.getElem?_eq_getElem hl, hi⟩
  obtain ⟨a, b⟩ := digits_range S p _ (List.mem_of_getElem? hz)
  have := (S.all ns[i] (List.getElem_mem hl)).2
  exact ⟨a, by have b : c < ns[i] := b; omega⟩
theorem shy_digits {ns : List Int} (S : Sz ns) (p : Int) : Shy (tI (digits ns p)) 54 ∧ (tI (digits ns p)).depth ≤ 8 := by
  obtain ⟨a, b⟩ := shy_tI (digits_small S p)
  refine ⟨⟨a.lay, a.dep, Nat.le_trans a.wt ?_, a.ish, a.shw⟩, by omega⟩
  rw [digits_len]
  have := S.len
  omega
theorem shy_allOf {ns : List Int} (S : Sz ns) {n : Nat} (hn : n ≤ 64) : Shy (.list (allOf ns n)) 4000 := by
  have h : ∀ d ∈ allOf ns n, Shy d 54 ∧ d.depth ≤ 8 := fun d hd => by
    obtain ⟨k, _, rfl⟩ := List.mem_map.mp hd
    exact shy_digits S k
  have a := (shy_tup h).2
  refine ⟨a.lay, a.dep, Nat.le_trans a.wt ?_, a.ish, a.shw⟩
  have : (allOf ns n).length = n := by unfold allOf; rw [List.length_map, List.length_range]
  rw [this]
  omega
end K1

set_option Elab.async false
set_option linter.all false
set_option autoImplicit false
set_option maxRecDepth 100000
set_option maxHeartbeats 1000000
namespace K1
open PySem PySem.Spec PyProof.Rows L2 Dn
variable {C : Addr}
theorem allOf_get (ns : List Int) {n k : Nat} (h : k < n) : (allOf ns n)[k]? = some (tI (digits ns k)) := by
  unfold allOf
  rw [List.getElem?_map, List.getElem?_range h]
  rfl
theorem allOf_len (ns : List Int) (n : Nat) : (allOf ns n).length = n := by
  unfold allOf
  rw [List.length_map, List.length_range]
theorem e_places_hold {ns : List Int} (S : Sz ns) (hn : ns ≠ []) {n : Nat} (hp : prodZ ns = n) (h64 : n ≤ 64) : v__law_places_hold C [tI ns, .list (allOf ns n)] = okB true := by
  have eall := v_repr (shy_allOf S h64) (by decide)
  have eallL := v_reprL (shy_allOf S h64) (by decide)
  have est := e_settings_of (C := C) S hn hp h64
  have key := loop_invM (γ := Unit) (asg := asgN 2) (body := sSeq (sIf (fOp oNeS (fCB bRepr (aCons (fCall 2 (v_place_of C) (aCons (fVar 0) (aCons (fOp oIx (fVar 1) (fVar 2)) aNil))) aNil)) (fCB bRepr (aCons (fVar 2) aNil))) (sRet (fC (.bool false))) sNil)
    (sIf (fOp oNeS (fCB bRepr (aCons (fCall 2 (v_setting_at C) (aCons (fVar 0) (aCons (fVar 2) aNil))) aNil)) (fCB bRepr (aCons (fOp oIx (fVar 1) (fVar 2)) aNil))) (sRet (fC (.bool false))) sNil)) (fun k : Nat => PyData.int k)
    (fun rest ρ _ => ∃ (i : Nat) (t : Option SV), ρ = [some (.d (tI ns)), some (.d (.list (allOf ns n))), t] ∧ rest = (List.range n).drop i) ?_ (List.range n) [some (.d (tI ns)), some (.d (.list (allOf ns n))), none] () ⟨0, none, rfl, rfl⟩
  · obtain ⟨ρ', g', e, i, t, rfl, _⟩ := key
    refine run_seq_ret ?_
    refine Eq.trans (u_seq (Eq.trans (u_ifF (w_op (w_cb (w_cons (w_listG (w_cons w_var w_nil) rfl rfl est) w_nil) eallL) (w_cb (w_cons w_var w_nil) eall) (o_neS _))) u_nil)) ?_
    have elen : (fCB bLen (aCons (fVar 1) aNil) : Fn Unit) (env0 [("_law_sizes_here" : Str), ("_law_all_of" : Str), ("_law_place" : Str)] [tI ns, .list (allOf ns n)]) () = .ok (.d (.int (n : Int))) () := w_cb (w_cons w_var w_nil) (by
      show some (SV.d (.int ((allOf ns n).length : Int))) = _
      rw [allOf_len])
    refine Eq.trans (u_seq (Eq.trans (u_for (w_rng1 (w_cons elen w_nil) (by omega))) e)) ?_
    exact u_ret (w_op (w_cb (w_cons (w_listG (w_cons w_var w_nil) rfl rfl est) w_nil) eallL) (w_cb (w_cons w_var w_nil) eall) (o_eqS _))
  · rintro k rest ρ g ⟨i, t, rfl, h1⟩
    obtain ⟨rfl, hr, hi⟩ := drop_range h1
    have ekr : bRepr [.d (.int (k : Nat))] = some (.d (.str (PyData.int (k : Nat)).shown)) := v_repr (shy_int ⟨by omega, by omega⟩) (by decide)
    have edr := v_repr (shy_digits S k).1 (by decide)
    have epl : v_place_of C [tI ns, tI (digits ns k)] = okD (.int (k : Nat)) := by
      rw [e_place_of S hn (digits_len ns k) (digits_range S k), place_digits S (by omega) (by rw [hp]; omega)]
    have ese := e_setting_at (C := C) S hn (p := (k : Nat)) (by omega) (by rw [hp]; omega)
    have eix := o_ixL (allOf_get ns hi)
    refine ⟨_, _, (), rfl, ?_, k + 1, some (.d (.int (k : Nat))), rfl, hr⟩
    refine Eq.trans (u_seq (Eq.trans (u_ifF (w_op (w_cb (w_cons (w_call (w_cons w_var (w_cons (w_op w_var w_var eix) w_nil)) rfl rfl epl) w_nil) ekr) (w_cb (w_cons w_var w_nil) ekr) (o_neS _))) u_nil)) ?_
    exact Eq.trans (u_ifF (w_op (w_cb (w_cons (w_call (w_cons w_var (w_cons w_var w_nil)) rfl rfl ese) w_nil) edr) (w_cb (w_cons (w_op w_var w_var eix) w_nil) edr) (o_neS _))) u_nil
end K1

set_option Elab.async false
set_option linter.all false
set_option autoImplicit false
set_option maxRecDepth 100000
set_option maxHeartbeats 1000000
namespace K1
open PySem PySem.Spec PyProof.Rows L2 Dn
variable {C : Addr}
/-- a setting of these sizes -/
structure St (ns cs : List Int) : Prop where
  len : cs.length = ns.length
  rng : ∀ i, i < ns.length → 0 ≤ cs.getD i 0 ∧ cs.getD i 0 < ns.getD i 0
theorem St.zip {ns cs : List Int} (h : St ns cs) : ∀ q ∈ ns.zip cs, 0 ≤ q.2 ∧ q.2 < q.1 := by
  intro q hq
  obtain ⟨i, hi⟩ := List.getElem?_of_mem hq
  rw [List.getElem?_zip_eq_some] at hi
  obtain ⟨h1, h2⟩ := hi
  have hl := (List.getElem?_eq_some_iff.mp h1).1
  have := h.rng i hl
  rw [List.getD_eq_getElem?_getD, List.getD_eq_getElem?_getD, h1, h2] at this
  exact this
theorem st_of {ns cs : List Int} (hl : cs.length = ns.length) (h : ∀ q ∈ ns.zip cs, 0 ≤ q.2 ∧ q.2 < q.1) : St ns cs := by
  refine ⟨hl, fun i hi => ?_⟩
  have h1 : ns[i]? = some ns[i] := List.getElem?_eq_getElem hi
  have h2 : cs[i]? = some (cs[i]'(by omega)) := List.getElem?_eq_getElem _
  have hz : (ns.zip cs)[i]? = some (ns[i], cs[i]'(by omega)) := by
    rw [List.getElem?_zip_eq_some]
    exact ⟨h1, h2⟩
  have := h _ (List.mem_of_getElem? hz)
  rw [List.getD_eq_getElem?_getD, List.getD_eq_getElem?_getD, h1, h2]
  exact this
theorem st_digits {ns : List Int} (S : Sz ns) (p : Int) : St ns (digits ns p) := st_of (digits_len ns p) (digits_range S p)
theorem getD_set (cs : List Int) (h i : Nat) (x : Int) (hh : h < cs.length) : (cs.set h x).getD i 0 = if h = i then x else cs.getD i 0 := by
  rw [List.getD_eq_getElem?_getD, List.getD_eq_getElem?_getD, List.getElem?_set]
  by_cases e : h = i
  · rw [if_pos e, if_pos hh, if_pos e]
    rfl
  · rw [if_neg e, if_neg e]
theorem setAll_get (f : Nat → Int) : ∀ (l : List Nat) (cs : List Int) (i : Nat), (∀ h ∈ l, h < cs.length) → (setAll cs (l.zip (l.map f))).getD i 0 = if i ∈ l then f i else cs.getD i 0
  | [], cs, i, _ => by simp [setAll]
  | h :: r, cs, i, hl => by
    have hh := hl h List.mem_cons_self
    show (setAll (cs.set h (f h)) (r.zip (r.map f))).getD i 0 = _
    rw [setAll_get f r (cs.set h (f h)) i (fun x hx => by rw [List.length_set]; exact hl x (List.mem_cons_of_mem _ hx)), getD_set _ _ _ _ hh]
    by_cases e : i ∈ r
    · rw [if_pos e, if_pos (List.mem_cons_of_mem _ e)]
    · rw [if_neg e]
      by_cases e2 : h = i
      · rw [if_pos e2, if_pos (by rw [e2]; exact List.mem_cons_self), e2]
      · rw [if_neg e2, if_neg (fun z => by
          rcases List.mem_cons.mp z with q | q
          · exact e2 q.symm
          · exact e q)]
theorem ext_getD {a b : List Int} (hl : a.length = b.length) (h : ∀ i, i < a.length → a.getD i 0 = b.getD i 0) : a = b := by
  apply List.ext_getElem hl
  intro i h1 h2
  have := h i h1
  rw [List.getD_eq_getElem?_getD, List.getD_eq_getElem?_getD, List.getElem?_eq_getElem h1, List.getElem?_eq_getElem h2] at this
  exact this
/-- another's choices on the lot -/
def mixed (cs hs : List Int) (l : List Nat) : List Int := setAll cs (l.zip (l.map fun k => hs.getD k 0))
theorem st_mixed {ns cs hs : List Int} {l : List Nat} (a : St ns cs) (b : St ns hs) (L : Lot ns.length l) : St ns (mixed cs hs l) := by
  have hl : (mixed cs hs l).length = ns.length := by unfold mixed; rw [setAll_len, a.len]
  refine ⟨hl, fun i hi => ?_⟩
  unfold mixed
  rw [setAll_get _ _ _ _ (fun h hh => by rw [a.len]; exact L.lt h hh)]
  by_cases e : i ∈ l
  · rw [if_pos e]; exact b.rng i hi
  · rw [if_neg e]; exact a.rng i hi
theorem back_mixed {ns cs hs : List Int} {l : List Nat} (a : St ns cs) (L : Lot ns.length l) : mixed (mixed cs hs l) cs l = cs := by
  have hl : (mixed cs hs l).length = ns.length := by unfold mixed; rw [setAll_len, a.len]
  refine ext_getD (by rw [show (mixed (mixed cs hs l) cs l).length = (mixed cs hs l).length from setAll_len _ _, hl, a.len]) fun i _ => ?_
  show (setAll (mixed cs hs l) _).getD i 0 = _
  rw [setAll_get _ _ _ _ (fun h hh => by rw [hl]; exact L.lt h hh)]
  by_cases e : i ∈ l
  · rw [if_pos e]
  · rw [if_neg e]
    unfold mixed
    rw [setAll_get _ _ _ _ (fun h hh => by rw [a.len]; exact L.lt h hh), if_neg e]
theorem st_small {ns cs : List Int} (S : Sz ns) (a : St ns cs) : ∀ c ∈ cs, Sm c := by
  intro c hc
  obtain ⟨i, hi⟩ := List.getElem?_of_mem hc
  have hl : i < ns.length := by rw [← a.len]; exact (List.getElem?_eq_some_iff.mp hi).1
  have := a.rng i hl
  rw [List.getD_eq_getElem?_getD, hi] at this
  have s4 := (S.all ns[i] (List.getElem_mem hl)).2
  rw [List.getD_eq_getElem?_getD, List.getElem?_eq_getElem hl] at this
  have t1 : 0 ≤ c := this.1
  have t2 : c < ns[i] := this.2
  exact ⟨t1, by omega⟩
theorem st_repr {ns cs : List Int} (S : Sz ns) (a : St ns cs) : bRepr [.d (tI cs)] = some (.d (.str (tI cs).shown)) := by
  refine v_repr (shy_tI (st_small S a)).1 ?_
  rw [a.len]
  have := S.len
  omega
theorem pick_repr {ns cs : List Int} {l : List Nat} (S : Sz ns) (a : St ns cs) (L : Lot ns.length l) : bRepr [.d (tI (l.map fun k => cs.getD k 0))] = some (.d (.str (tI (l.map fun k => cs.getD k 0)).shown)) := by
  refine v_repr (shy_tI (fun c hc => ?_)).1 ?_
  · obtain ⟨k, hk, rfl⟩ := List.mem_map.mp hc
    have hl := L.lt k hk
    have h2 : cs[k]? = some (cs[k]'(by rw [a.len]; exact hl)) := List.getElem?_eq_getElem _
    rw [List.getD_eq_getElem?_getD, h2]
    exact st_small S a _ (List.getElem_mem _)
  · rw [List.length_map]
    have := L.few
    omega
theorem right_pick {ns cs : List Int} {l : List Nat} (a : St ns cs) (L : Lot ns.length l) : rightB (l.map fun k => ns.getD k 0) (tI (l.map fun k => cs.getD k 0)) = true := by
  refine right_ints (by rw [List.length_map, List.length_map]) fun q hq => ?_
  rw [List.zip_map'] at hq
  obtain ⟨k, hk, rfl⟩ := List.mem_map.mp hq
  exact a.rng k (L.lt k hk)
theorem put_is {ns cs hs : List Int} {l : List Nat} (S : Sz ns) (hn : ns ≠ []) (a : St ns cs) (b : St ns hs) (L : Lot ns.length l) : v_put_on C [tI ns, tI cs, tN l, tI (l.map fun k => hs.getD k 0)] = okD (tI (mixed cs hs l)) := e_put_on S hn a.len a.zip L (right_pick b L)
/-- [xs[h] for h in lot], as a tuple -/
theorem w_pick {γ : Type} {ρ : Dn.Env} {g : γ} {cs : List Int} {l : List Nat} {i j k : Nat} (hi : ρ[i]? = some (some (.d (tI cs)))) (hj : ρ[j]? = some (some (.d (tN l)))) (hk : k < ρ.length) (ik : i ≠ k) (jk : j ≠ k) (h : ∀ h ∈ l, h < cs.length) (hl : l.length ≤ 1000) :
    (fCB bTuple (aCons (fLc [k] (iAny (fVar j)) (asgN k) fYes (fOp oIx (fVar i) (fVar k))) aNil) : Fn γ) ρ g = .ok (.d (tI (l.map fun k => cs.getD k 0))) g := by
  refine w_cb (w_cons (w_lc l (fun k : Nat => .int k) (fun k => .int (cs.getD k 0)) (w_any (w_var hj)) (by omega) fun x hx => ?_) w_nil) ?_
  · refine ⟨(wipeE ρ [k]).set k (some (.d (.int (x : Nat)))), ?_, w_op (w_var (x := tI cs) ?_) (w_var (x := .int (x : Nat)) ?_) (o_ixT ?_)⟩
    · show (if k < (wipeE ρ [k]).length then _ else _) = _
      rw [if_pos (by show k < (ρ.set k none).length; rw [List.length_set]; exact hk)]
    · show ((ρ.set k none).set k _)[i]? = _
      rw [List.getElem?_set_ne (Ne.symm ik), List.getElem?_set_ne (Ne.symm ik)]
      exact hi
    · show ((ρ.set k none).set k _)[k]? = _
      rw [List.getElem?_set_self (by rw [List.length_set]; exact hk)]
    · have := h x hx
      rw [List.getElem?_map, List.getElem?_eq_getElem this]
      simp [this]
  · show some (SV.d (.tuple (l.map fun k => PyData.int (cs.getD k 0)))) = some (SV.d (.tuple ((l.map fun k => cs.getD k 0).map PyData.int)))
    rw [List.map_map]
    rfl
end K1

set_option Elab.async false
set_option linter.all false
set_option autoImplicit false
set_option maxRecDepth 100000
set_option maxHeartbeats 1000000
namespace K1
open PySem PySem.Spec PyProof.Rows L2 Dn
variable {C : Addr}
theorem mix_loop {ns low hs : List Int} {l : List Nat} (a : St ns low) (b : St ns hs) (L : Lot ns.length l) (all here : PyData) (u : Option SV) (t0 : Option SV) (g : SrcG) :
    ∃ t, loopD (asgN 8) (sSetI 7 (fVar 8) (fOp oIx (fVar 4) (fVar 8))) (l.map fun k : Nat => PyData.int k) [some .h, some (.d (tI ns)), some (.d all), some (.d (tI low)), some (.d (tI hs)), some (.d (tN l)), some (.d here), some (.l (low.map PyData.int)), t0, u] g =
      .next [some .h, some (.d (tI ns)), some (.d all), some (.d (tI low)), some (.d (tI hs)), some (.d (tN l)), some (.d here), some (.l ((mixed low hs l).map PyData.int)), t, u] g := by
  have key := loop_invM (γ := SrcG) (asg := asgN 8) (body := sSetI 7 (fVar 8) (fOp oIx (fVar 4) (fVar 8))) (fun k : Nat => PyData.int k)
    (fun rest ρ g1 => ∃ (xs : List Int) (t : Option SV), ρ = [some .h, some (.d (tI ns)), some (.d all), some (.d (tI low)), some (.d (tI hs)), some (.d (tN l)), some (.d here), some (.l (xs.map PyData.int)), t, u] ∧ setAll xs (rest.zip (rest.map fun k => hs.getD k 0)) = mixed low hs l ∧ xs.length = ns.length ∧ (∀ h ∈ rest, h < ns.length) ∧ g1 = g) ?_ l _ g ⟨low, t0, rfl, rfl, a.len, L.lt, rfl⟩
  · obtain ⟨ρ', g', e, xs, t, rfl, h2, _, _, rfl⟩ := key
    have h2 : xs = mixed low hs l := h2
    subst h2
    exact ⟨t, e⟩
  · rintro h rest ρ g1 ⟨xs, t, rfl, h2, hx, hr, rfl⟩
    have hh := hr h List.mem_cons_self
    have ek : (hs.map PyData.int)[h]? = some (.int (hs.getD h 0)) := by
      rw [List.getElem?_map, List.getElem?_eq_getElem (by rw [b.len]; exact hh)]
      simp [b.len, hh]
    refine ⟨_, _, g1, rfl, u_seti (xs := xs.map PyData.int) (k := .int (hs.getD h 0)) (n := h) (j := h) (w_op w_var w_var (o_ixT ek)) rfl w_var (ixN_at (by rw [List.length_map, hx]; exact hh)), xs.set h (hs.getD h 0), some (.d (.int (h : Nat))), ?_, h2, by rw [List.length_set]; exact hx, fun x hx' => hr x (List.mem_cons_of_mem _ hx'), rfl⟩
    rw [List.map_set]
    rfl
theorem e_choices_hold {ns : List Int} {g : SrcG} (S : Sz ns) (hn : ns ≠ []) {n : Nat} (hp : prodZ ns = n) (h1 : 1 ≤ n) (h64 : n ≤ 64) (hg : Few g) : ∃ g', v__law_choices_hold C [.h, .d (tI ns), .d (.list (allOf ns n))] g = .ok (.d (.bool true)) g' ∧ Few g' := by
  have elen : ∀ (ρ : Dn.Env) (g : SrcG), ρ[2]? = some (some (.d (.list (allOf ns n)))) → (fCB bLen (aCons (fVar 2) aNil) : Fn SrcG) ρ g = .ok (.d (.int (n : Int))) g := fun ρ g h => w_cb (w_cons (w_var h) w_nil) (by
    show some (SV.d (.int ((allOf ns n).length : Int))) = _
    rw [allOf_len])
  obtain ⟨d, g1, ed, d0, d1, c1⟩ := w_draw (C := C) (ρ := envS [("_law_source" : Str), ("_law_sizes_here" : Str), ("_law_all_of" : Str), ("_law_low" : Str), ("_law_high" : Str), ("_law_lot" : Str), ("_law_here" : Str), ("_law_mixed" : Str), ("_law_house" : Str), ("_law_put" : Str)] [.h, .d (tI ns), .d (.list (allOf ns n))]) (g := g) (i := 0) rfl (elen _ g rfl) (by omega) (by omega) hg
  obtain ⟨i, rfl⟩ : ∃ i : Nat, d = i := ⟨d.toNat, by omega⟩
  obtain ⟨low, hlow⟩ : ∃ low, digits ns i = low := ⟨_, rfl⟩
  have al : St ns low := by rw [← hlow]; exact st_digits S i
  have eil := o_ixL (allOf_get ns (n := n) (k := i) (by omega))
  rw [hlow] at eil
  obtain ⟨d', g2, ed', d0', d1', c2⟩ := w_draw (C := C) (ρ := [some .h, some (.d (tI ns)), some (.d (.list (allOf ns n))), some (.d (tI low)), none, none, none, none, none, none]) (g := g1) (i := 0) rfl (elen _ g1 rfl) (by omega) (by omega) c1
  obtain ⟨j, rfl⟩ : ∃ j : Nat, d' = j := ⟨d'.toNat, by omega⟩
  obtain ⟨hs, hhs⟩ : ∃ hs, digits ns (n - 1 - j : Nat) = hs := ⟨_, rfl⟩
  have bl : St ns hs := by rw [← hhs]; exact st_digits S _
  have eih : oIx (.d (.list (allOf ns n))) (.d (.int ((n : Int) - 1 - (j : Nat)))) = some (.d (tI hs)) := by
    have : (n : Int) - 1 - (j : Nat) = ((n - 1 - j : Nat) : Int) := by omega
    rw [this, ← hhs]
    exact o_ixL (allOf_get ns (by omega))
  have n6 := S.len
  have eml : (fCB bLen (aCons (fVar 1) aNil) : Fn SrcG) [some .h, some (.d (tI ns)), some (.d (.list (allOf ns n))), some (.d (tI low)), some (.d (tI hs)), none, none, none, none, none] g2 = .ok (.d (.int (ns.length : Int))) g2 := w_cb (w_cons w_var w_nil) (by
    show some (SV.d (.int ((ns.map PyData.int).length : Int))) = _
    rw [List.length_map])
  have key := loop_invM (γ := SrcG) (asg := asgN 5) (body := sSeq (sAsg 6 (fCall 3 (v_choices_on C) (aCons (fVar 1) (aCons (fVar 4) (aCons (fVar 5) aNil)))))
    (sSeq (sIf (fOp oNeS (fCB bRepr (aCons (fVar 6) aNil)) (fCB bRepr (aCons (fCB bTuple (aCons (fLc [8] (iAny (fVar 5)) (asgN 8) fYes (fOp oIx (fVar 4) (fVar 8))) aNil)) aNil))) (sRet (fC (.bool false))) sNil)
    (sSeq (sAsg 7 (fCB bList (aCons (fVar 3) aNil)))
    (sSeq (sFor (iAny (fVar 5)) (asgN 8) (sSetI 7 (fVar 8) (fOp oIx (fVar 4) (fVar 8))))
    (sSeq (sAsg 9 (fCall 4 (v_put_on C) (aCons (fVar 1) (aCons (fVar 3) (aCons (fVar 5) (aCons (fCB bTuple (aCons (fLc [8] (iAny (fVar 5)) (asgN 8) fYes (fOp oIx (fVar 4) (fVar 8))) aNil)) aNil))))))
    (sSeq (sIf (fOp oNeS (fCB bRepr (aCons (fVar 9) aNil)) (fCB bRepr (aCons (fCB bTuple (aCons (fVar 7) aNil)) aNil))) (sRet (fC (.bool false))) sNil)
    (sIf (fOp oNeS (fCB bRepr (aCons (fCall 4 (v_put_on C) (aCons (fVar 1) (aCons (fVar 9) (aCons (fVar 5) (aCons (fCB bTuple (aCons (fLc [8] (iAny (fVar 5)) (asgN 8) fYes (fOp oIx (fVar 3) (fVar 8))) aNil)) aNil))))) aNil)) (fCB bRepr (aCons (fVar 3) aNil))) (sRet (fC (.bool false))) sNil))))))) tN
    (fun rest ρ g => ∃ t5 t6 t7 t8 t9 : Option SV, ρ = [some .h, some (.d (tI ns)), some (.d (.list (allOf ns n))), some (.d (tI low)), some (.d (tI hs)), t5, t6, t7, t8, t9] ∧ (∀ l ∈ rest, Lot ns.length l) ∧ Few g) ?_ (lotsN ns.length) _ g2 ⟨none, none, none, none, none, rfl, fun l hl => lot_of n6 hl, c2⟩
  · obtain ⟨ρ', g', e, t5, t6, t7, t8, t9, rfl, _, cg⟩ := key
    refine ⟨g', run_s ?_, cg⟩
    refine Eq.trans (u_seq (u_set (w_op w_var ed eil))) ?_
    refine Eq.trans (u_seq (u_set (w_op w_var (w_op (w_op (elen _ g1 rfl) w_c rfl) ed' rfl) eih))) ?_
    refine Eq.trans (u_seq (Eq.trans (u_for (w_anyL (w_frzL (w_callL (w_cons eml w_nil) rfl rfl (e_lots n6))))) e)) ?_
    exact u_ret w_c
  · rintro l rest ρ g ⟨t5, t6, t7, t8, t9, rfl, hL, cg⟩
    have L := hL l List.mem_cons_self
    have eh : v_choices_on C [tI ns, tI hs, tN l] = okD (tI (l.map fun k => hs.getD k 0)) := e_choices_on S hn bl.len bl.zip L
    obtain ⟨t, eloop⟩ := mix_loop al bl L (.list (allOf ns n)) (tI (l.map fun k => hs.getD k 0)) t9 t8 g
    have rp := pick_repr S bl L
    have am := st_mixed al bl L
    have rm := st_repr S am
    have rl := st_repr S al
    have e1 : v_put_on C [tI ns, tI low, tN l, tI (l.map fun k => hs.getD k 0)] = okD (tI (mixed low hs l)) := put_is S hn al bl L
    have e2 : v_put_on C [tI ns, tI (mixed low hs l), tN l, tI (l.map fun k => low.getD k 0)] = okD (tI low) := by
      rw [put_is S hn am al L, back_mixed al L]
    have hlt : ∀ {cs : List Int}, St ns cs → ∀ h ∈ l, h < cs.length := fun a h hh => by rw [a.len]; exact L.lt h hh
    refine ⟨_, _, g, rfl, ?_, some (.d (tN l)), some (.d (tI (l.map fun k => hs.getD k 0))), some (.l ((mixed low hs l).map PyData.int)), t, some (.d (tI (mixed low hs l))), rfl, fun x hx => hL x (List.mem_cons_of_mem _ hx), cg⟩
    refine Eq.trans (u_seq (u_set (w_call (w_cons w_var (w_cons w_var (w_cons w_var w_nil))) rfl rfl eh))) ?_
    refine Eq.trans (u_seq (Eq.trans (u_ifF (w_op (w_cb (w_cons w_var w_nil) rp) (w_cb (w_cons (w_pick (cs := hs) (l := l) rfl rfl (show 8 < 10 by decide) (by decide) (by decide) (hlt bl) L.few) w_nil) rp) (o_neS _))) u_nil)) ?_
    refine Eq.trans (u_seq (u_set (w_cb (w_cons w_var w_nil) rfl))) ?_
    refine Eq.trans (u_seq (Eq.trans (u_for (w_any w_var)) eloop)) ?_
    refine Eq.trans (u_seq (u_set (w_call (w_cons w_var (w_cons w_var (w_cons w_var (w_cons (w_pick (cs := hs) (l := l) rfl rfl (show 8 < 10 by decide) (by decide) (by decide) (hlt bl) L.few) w_nil)))) rfl rfl e1))) ?_
    refine Eq.trans (u_seq (Eq.trans (u_ifF (w_op (w_cb (w_cons w_var w_nil) rm) (w_cb (w_cons (w_cb (w_cons w_varL w_nil) rfl) w_nil) rm) (o_neS _))) u_nil)) ?_
    exact Eq.trans (u_ifF (w_op (w_cb (w_cons (w_call (w_cons w_var (w_cons w_var (w_cons w_var (w_cons (w_pick (cs := low) (l := l) rfl rfl (show 8 < 10 by decide) (by decide) (by decide) (hlt al) L.few) w_nil)))) rfl rfl e2) w_nil) rl) (w_cb (w_cons w_var w_nil) rl) (o_neS _))) u_nil
end K1

set_option Elab.async false
set_option linter.all false
set_option autoImplicit false
set_option maxRecDepth 100000
set_option maxHeartbeats 1000000
namespace K1
open PySem PySem.Spec PyProof.Rows L2 Dn
variable {C : Addr}
theorem pick2 {z : Int} (h0 : 0 ≤ z) (h1 : z < 2) : ∃ (k : Nat) (s : Int), z = k ∧ ([.int 1, .int (-1)] : List PyData)[k]? = some (.int s) ∧ (s = 1 ∨ s = -1) := by
  obtain ⟨k, rfl⟩ : ∃ k : Nat, z = k := ⟨z.toNat, by omega⟩
  match k, (show k < 2 by omega) with
  | 0, _ => exact ⟨0, 1, rfl, rfl, .inl rfl⟩
  | 1, _ => exact ⟨1, -1, rfl, rfl, .inr rfl⟩
theorem w_sign {ρ : Dn.Env} {g : SrcG} {i : Nat} (hi : ρ[i]? = some (some .h)) (hl : Few g) : ∃ s g', (fOp oIx (fLst (aCons (fC (.int 1)) (aCons (fUn oNeg (fC (.int 1))) aNil))) (fCallS 2 (v__law_draw C) (aCons (fVar i) (aCons (fC (.int 2)) aNil))) : Fn SrcG) ρ g = .ok (.d (.int s)) g' ∧ (s = 1 ∨ s = -1) ∧ Few g' := by
  obtain ⟨d, g1, ed, d0, d1, cg⟩ := w_draw (C := C) (ρ := ρ) (g := g) (i := i) hi (φ := fC (.int 2)) w_c (by decide) (by decide) hl
  obtain ⟨k, s, rfl, es, hs⟩ := pick2 d0 d1
  exact ⟨s, g1, w_op (w_lst (w_cons w_c (w_cons (w_un w_c rfl) w_nil)) rfl (show 2 ≤ 1000 by decide)) ed (o_ixl es), hs, cg⟩
theorem w_number {ρ : Dn.Env} {g g1 : SrcG} {i n : Nat} {φ : Fn SrcG} (hi : ρ[i]? = some (some .h)) (hφ : φ ρ g = .ok (.d (.int n)) g1) (hn : n ≤ 20) (hl : Few g1) :
    ∃ z g', (fCallS 2 (v__law_number C) (aCons (fVar i) (aCons φ aNil)) : Fn SrcG) ρ g = .ok (.d (.int z)) g' ∧ 0 ≤ z ∧ z < 1000 ^ n ∧ Few g' := by
  obtain ⟨z, g', e, a, b, c⟩ := e_number (C := C) hn hl
  exact ⟨z, g', w_callS (w_cons (w_varH hi) (w_cons hφ w_nil)) rfl rfl e, a, b, c⟩
theorem nat_lt {z : Int} {n k : Nat} (h0 : 0 ≤ z) (h1 : z < 1000 ^ n) (h2 : 1000 ^ n ≤ 2 ^ k) : z.natAbs < 2 ^ k := by
  have h3 : (z.natAbs : Int) < ((1000 ^ n : Nat) : Int) := by
    rw [Int.natAbs_of_nonneg h0, Int.natCast_pow]
    exact h1
  exact Nat.lt_of_lt_of_le (Int.ofNat_lt.mp h3) h2
theorem nat_lt1 {z : Int} {n k : Nat} (h0 : 0 ≤ z) (h1 : z < 1000 ^ n) (h2 : 1000 ^ n < 2 ^ k) : (1 + z).natAbs < 2 ^ k := by
  have h3 : (1 + z).natAbs ≤ 1000 ^ n := by
    have : ((1 + z).natAbs : Int) ≤ ((1000 ^ n : Nat) : Int) := by
      rw [Int.natAbs_of_nonneg (by omega), Int.natCast_pow]
      have h1 : z < 1000 ^ n := h1
      show 1 + z ≤ (1000 : Int) ^ n
      omega
    exact Int.ofNat_le.mp this
  omega
theorem pow_a : ∀ n : Nat, n ≤ 7 → 1000 ^ n ≤ 2 ^ 70 := by decide +kernel
theorem pow_b : ∀ n : Nat, n ≤ 6 → 1000 ^ n < 2 ^ 60 := by decide +kernel
theorem pow_c : ∀ n : Nat, n ≤ 5 → 1000 ^ n < 2 ^ 50 := by decide +kernel
theorem natAbs_mul_lt {i j : Int} {a b : Nat} (hi : i.natAbs < 2 ^ a) (hj : j.natAbs < 2 ^ b) : (i * j).natAbs < 2 ^ (a + b) := by
  rw [Int.natAbs_mul, Nat.pow_add]
  exact Nat.mul_lt_mul'' hi hj
theorem sign_abs {i s : Int} (h : s = 1 ∨ s = -1) : (i * s).natAbs = i.natAbs := by
  rcases h with rfl | rfl
  · rw [Int.mul_one]
  · rw [Int.mul_neg, Int.mul_one, Int.natAbs_neg]
abbrev nQ : List Str := [("_law_source" : Str), ("_law_high" : Str), ("_law_low" : Str), ("_law_factor" : Str)]
theorem e_quotient {g : SrcG} (hl : Few g) : ∃ h l g', v__law_quotient C [.h] g = .ok (.d (qt h l)) g' ∧ l ≠ 0 ∧ h.natAbs < 2 ^ 120 ∧ l.natAbs < 2 ^ 120 ∧ Few g' := by
  -- high
  obtain ⟨d1, g1, e1, d10, d11, c1⟩ := w_draw (C := C) (ρ := envS nQ [.h]) (g := g) (i := 0) rfl (φ := fC (.int 7)) w_c (by decide) (by decide) hl
  obtain ⟨n1, rfl⟩ : ∃ k : Nat, d1 = k := ⟨d1.toNat, by omega⟩
  have p1 : oAdd (.d (.int 1)) (.d (.int (n1 : Nat))) = some (.d (.int ((1 + n1 : Nat) : Int))) := by
    show some (SV.d (.int (1 + (n1 : Int)))) = _
    rw [Int.natCast_add]
    rfl
  obtain ⟨z1, g2, e2, z10, z11, c2⟩ := w_number (C := C) (ρ := envS nQ [.h]) (g := g) (i := 0) rfl (w_op w_c e1 p1) (by omega) c1
  obtain ⟨s1, g3, e3, hs1, c3⟩ := w_sign (C := C) (ρ := envS nQ [.h]) (g := g2) (i := 0) rfl c2
  have a1 := nat_lt z10 z11 (pow_a (1 + n1) (by omega))
  have s1b : s1.natAbs < 2 ^ 10 := by rcases hs1 with rfl | rfl <;> decide
  -- low
  obtain ⟨d2, g4, e4, d20, d21, c4⟩ := w_draw (C := C) (ρ := [some .h, some (.d (.int (z1 * s1))), none, none]) (g := g3) (i := 0) rfl (φ := fC (.int 7)) w_c (by decide) (by decide) c3
  obtain ⟨n2, rfl⟩ : ∃ k : Nat, d2 = k := ⟨d2.toNat, by omega⟩
  obtain ⟨z2, g5, e5, z20, z21, c5⟩ := w_number (C := C) (ρ := [some .h, some (.d (.int (z1 * s1))), none, none]) (g := g3) (i := 0) rfl e4 (by omega) c4
  have a2 := nat_lt1 z20 z21 (pow_b n2 (by omega))
  -- the factor, or none
  obtain ⟨d3, g6, e6, d30, d31, c6⟩ := w_draw (C := C) (ρ := [some .h, some (.d (.int (z1 * s1))), some (.d (.int (1 + z2))), none]) (g := g5) (i := 0) rfl (φ := fC (.int 2)) w_c (by decide) (by decide) c5
  have ha : (z1 * s1).natAbs < 2 ^ 70 := by rw [sign_abs hs1]; exact a1
  have mid : ∃ (h l : Int) (t : Option SV) (g7 : SrcG), (sIf (fOp oEqS (fCallS 2 (v__law_draw C) (aCons (fVar 0) (aCons (fC (.int 2)) aNil))) (fC (.int 0))) (sSeq (sAsg 3 (fOp oAdd (fC (.int 1)) (fCallS 2 (v__law_number C) (aCons (fVar 0) (aCons (fOp oAdd (fC (.int 1)) (fCallS 2 (v__law_draw C) (aCons (fVar 0) (aCons (fC (.int 5)) aNil)))) aNil)))))
      (sSeq (sAsg 1 (fOp oMul (fVar 1) (fVar 3))) (sAsg 2 (fOp oMul (fVar 2) (fVar 3))))) sNil : SFn SrcG) [some .h, some (.d (.int (z1 * s1))), some (.d (.int (1 + z2))), none] g5 = .next [some .h, some (.d (.int h)), some (.d (.int l)), t] g7 ∧ 1 ≤ l ∧ h.natAbs < 2 ^ 120 ∧ l.natAbs < 2 ^ 110 ∧ Few g7 := by
    by_cases z : d3 = 0
    · obtain ⟨d4, g7, e7, d40, d41, c7⟩ := w_draw (C := C) (ρ := [some .h, some (.d (.int (z1 * s1))), some (.d (.int (1 + z2))), none]) (g := g6) (i := 0) rfl (φ := fC (.int 5)) w_c (by decide) (by decide) c6
      obtain ⟨n4, rfl⟩ : ∃ k : Nat, d4 = k := ⟨d4.toNat, by omega⟩
      have p4 : oAdd (.d (.int 1)) (.d (.int (n4 : Nat))) = some (.d (.int ((1 + n4 : Nat) : Int))) := by
        show some (SV.d (.int (1 + (n4 : Int)))) = _
        rw [Int.natCast_add]
        rfl
      obtain ⟨z4, g8, e8, z40, z41, c8⟩ := w_number (C := C) (ρ := [some .h, some (.d (.int (z1 * s1))), some (.d (.int (1 + z2))), none]) (g := g6) (i := 0) rfl (w_op w_c e7 p4) (by omega) c7
      have a4 := nat_lt1 z40 z41 (pow_c (1 + n4) (by omega))
      have ez : oEqS (.d (.int d3)) (.d (.int 0)) = some (.d (.bool true)) := by rw [o_eqI, decide_eq_true z]
      refine ⟨z1 * s1 * (1 + z4), (1 + z2) * (1 + z4), some (.d (.int (1 + z4))), g8, ?_, ?_, natAbs_mul_lt ha a4, natAbs_mul_lt a2 a4, c8⟩
      · refine Eq.trans (u_ifT (w_op e6 w_c ez)) ?_
        refine Eq.trans (u_seq (u_set (w_op w_c e8 rfl))) ?_
        refine Eq.trans (u_seq (u_set (w_op w_var w_var (o_mul ha a4 (by decide) (by decide) (by decide))))) ?_
        exact u_set (w_op w_var w_var (o_mul a2 a4 (by decide) (by decide) (by decide)))
      · have := Int.mul_le_mul (show 1 ≤ 1 + z2 by omega) (show 1 ≤ 1 + z4 by omega) (by decide) (by omega)
        omega
    · have ez : oEqS (.d (.int d3)) (.d (.int 0)) = some (.d (.bool false)) := by rw [o_eqI, decide_eq_false z]
      exact ⟨z1 * s1, 1 + z2, none, g6, Eq.trans (u_ifF (w_op e6 w_c ez)) u_nil, by omega, Nat.lt_of_lt_of_le ha (by decide), Nat.lt_of_lt_of_le a2 (by decide), c6⟩
  obtain ⟨h, l, t, g7, em, l1, hh, hlb, c7⟩ := mid
  obtain ⟨s9, g9, e9, hs9, c9⟩ := w_sign (C := C) (ρ := [some .h, some (.d (.int h)), some (.d (.int l)), t]) (g := g7) (i := 0) rfl c7
  have s9b : s9.natAbs < 2 ^ 10 := by rcases hs9 with rfl | rfl <;> decide
  refine ⟨h, l * s9, g9, run_s ?_, ?_, hh, by rw [sign_abs hs9]; exact Nat.lt_of_lt_of_le hlb (by decide), c9⟩
  · refine Eq.trans (u_seq (u_set (w_op e2 e3 (o_mul a1 s1b (by decide) (by decide) (by decide))))) ?_
    refine Eq.trans (u_seq (u_set (w_op w_c e5 rfl))) ?_
    refine Eq.trans (u_seq em) ?_
    exact u_ret (w_tup (w_cons w_var (w_cons (w_op w_var e9 (o_mul hlb s9b (by decide) (by decide) (by decide))) w_nil)) rfl (show 2 ≤ 1000 by decide))
  · rcases hs9 with rfl | rfl <;> omega
end K1

set_option Elab.async false
set_option linter.all false
set_option autoImplicit false
set_option maxRecDepth 100000
set_option maxHeartbeats 1000000
namespace K1
open PySem PySem.Spec PyProof.Rows L2 Dn
variable {C : Addr}
theorem Red.quo {t b a c : Int} (r : Red t b a c) : Quo a c := ⟨r.pos, r.cop⟩
theorem cancel {u v w : Int} (hu : u ≠ 0) (h : u * v = u * w) : v = w := Int.eq_of_mul_eq_mul_left hu h
/-- the sum of two worths is worth the sum -/
theorem sum_eq {h l h' l' a c a' c' x y : Int} (r : Red h l a c) (r' : Red h' l' a' c') (e : x * (c * c') = (a * c' + a' * c) * y) : x * (l * l') = (h * l' + h' * l) * y := by
  have p := r.pos
  have p' := r'.pos
  have n : c * c' ≠ 0 := by
    have := Int.mul_pos (show 0 < c by omega) (show 0 < c' by omega)
    omega
  refine cancel n ?_
  have e1 := r.eq
  have e2 := r'.eq
  calc c * c' * (x * (l * l')) = x * (c * c') * (l * l') := by rw [Int.mul_left_comm, ← Int.mul_assoc x]
    _ = (a * c' + a' * c) * y * (l * l') := by rw [e]
    _ = (a * l) * (c' * l') * y + (a' * l') * (c * l) * y := by
      rw [Int.add_mul, Int.add_mul]
      congr 1
      · rw [Int.mul_assoc a c' y, Int.mul_assoc a (c' * y), Int.mul_assoc a l, Int.mul_assoc a]
        congr 1
        rw [Int.mul_comm l (c' * l'), Int.mul_assoc c' y, Int.mul_assoc c' l' l, Int.mul_assoc c', Int.mul_comm y, Int.mul_comm l l']
      · rw [Int.mul_assoc a' c y, Int.mul_assoc a' (c * y), Int.mul_assoc a' l', Int.mul_assoc a']
        congr 1
        rw [Int.mul_comm l' (c * l), Int.mul_assoc c y, Int.mul_assoc c l l', Int.mul_assoc c, Int.mul_comm y]
    _ = (h * c) * (c' * l') * y + (h' * c') * (c * l) * y := by rw [e1, e2]
    _ = c * c' * ((h * l' + h' * l) * y) := by
      rw [Int.add_mul, Int.mul_add]
      congr 1
      · rw [Int.mul_comm h c, Int.mul_assoc c h, Int.mul_assoc c, Int.mul_assoc c c']
        congr 1
        rw [Int.mul_left_comm h c' l', Int.mul_assoc c' (h * l')]
      · rw [Int.mul_comm h' c', Int.mul_comm c c', Int.mul_assoc c' h', Int.mul_assoc c', Int.mul_assoc c' c]
        congr 1
        rw [Int.mul_left_comm h' c l, Int.mul_assoc c (h' * l)]
theorem mul_eq {h l h' l' a c a' c' x y : Int} (r : Red h l a c) (r' : Red h' l' a' c') (e : x * (c * c') = (a * a') * y) : x * (l * l') = (h * h') * y := by
  have p := r.pos
  have p' := r'.pos
  have n : c * c' ≠ 0 := by
    have := Int.mul_pos (show 0 < c by omega) (show 0 < c' by omega)
    omega
  refine cancel n ?_
  calc c * c' * (x * (l * l')) = x * (c * c') * (l * l') := by rw [Int.mul_left_comm, ← Int.mul_assoc x]
    _ = (a * a') * y * (l * l') := by rw [e]
    _ = (a * l) * (a' * l') * y := by
      rw [Int.mul_assoc a a' y, Int.mul_assoc a (a' * y), Int.mul_assoc a l, Int.mul_assoc a]
      congr 1
      rw [Int.mul_assoc a' y, Int.mul_left_comm l a' l', Int.mul_assoc a', Int.mul_comm y]
    _ = (h * c) * (h' * c') * y := by rw [r.eq, r'.eq]
    _ = c * c' * (h * h' * y) := by
      rw [Int.mul_comm h c, Int.mul_assoc c h, Int.mul_left_comm h h' c', Int.mul_comm h' (h * c'), Int.mul_comm h c', Int.mul_assoc c' h h', Int.mul_assoc c, Int.mul_assoc c' (h * h'), Int.mul_assoc c c']
theorem is_quotient_list (a c : Int) : v_is_quotient C [.list [.int a, .int c]] = okB false := by
  refine run_seq_ret ?_
  exact u_seqR (Eq.trans (u_ifT (w_or (p := true) (q := true) (w_not (w_isi w_var rfl (isi_tl _))) fun z => by cases z)) (u_ret w_c))
theorem is_quotient3 (a c : Int) : v_is_quotient C [qt (a * 3) (c * 3)] = okB false := by
  rw [e_is_quotient]
  have : gcdZ (a * 3) (c * 3) ≠ 1 := by
    show Nat.gcd (a * 3).natAbs (c * 3).natAbs ≠ 1
    rw [Int.natAbs_mul, Int.natAbs_mul, Nat.gcd_mul_right]
    show Nat.gcd a.natAbs c.natAbs * 3 ≠ 1
    omega
  rw [decide_eq_false this, Bool.and_false]
theorem zero_sum {a c x y : Int} (q : Quo a c) (r : Red (a * c + -a * c) (c * c) x y) : x = 0 ∧ y = 1 := by
  have z : a * c + -a * c = 0 := by rw [Int.neg_mul]; omega
  have e := r.eq
  rw [z, Int.zero_mul] at e
  have p := q.pos
  have n : c * c ≠ 0 := by
    have := Int.mul_pos (show 0 < c by omega) (show 0 < c by omega)
    omega
  have x0 : x = 0 := by
    rcases Int.mul_eq_zero.mp e with h | h
    · exact h
    · exact absurd h n
  have cp := r.cop
  rw [x0] at cp
  have : Nat.gcd 0 y.natAbs = 1 := cp
  rw [Nat.gcd_zero_left] at this
  have := r.pos
  exact ⟨x0, by omega⟩
theorem repr01 : bRepr [.d (qt 0 1)] = some (.d (.str "(0, 1)")) := by
  have h : Shy (qt 0 1) 18 := (shy_tI (cs := [0, 1]) (by decide)).1
  rw [v_repr h (by decide)]
  have : (qt 0 1).shown = ("(0, 1)" : Str) := by decide +kernel
  rw [this]
theorem o_notT : oIsNot (.d (.bool true)) (.d (.bool true)) = some (.d (.bool false)) := rfl
theorem o_notF : oIsNot (.d (.bool false)) (.d (.bool false)) = some (.d (.bool false)) := rfl
theorem add_lt {i j : Int} {k : Nat} (hi : i.natAbs < 2 ^ k) (hj : j.natAbs < 2 ^ k) : (i + j).natAbs < 2 ^ (k + 1) := by
  have := Int.natAbs_add_le i j
  rw [Nat.pow_succ]
  omega
theorem wk {z : Int} {a b : Nat} (h : z.natAbs < 2 ^ a) (hab : a ≤ b) : z.natAbs < 2 ^ b := Nat.lt_of_lt_of_le h (Nat.pow_le_pow_right (by decide) hab)
theorem e_quotients_hold {g : SrcG} (hg : Few g) : ∃ g', v__law_quotients_hold C [.h] g = .ok (.d (.bool true)) g' ∧ Few g' := by
  have key := loop_invM (γ := SrcG) (asg := asgN 1) (body := sSeq (sAsg 4 (fCallS 1 (v__law_quotient C) (aCons (fVar 0) aNil)))
    (sSeq (sAsg 5 (fCallS 1 (v__law_quotient C) (aCons (fVar 0) aNil)))
    (sSeq (sAsg 6 (fCall 2 (v_quotient_of C) (aCons (fOp oIx (fVar 4) (fC (.int 0))) (aCons (fOp oIx (fVar 4) (fC (.int 1))) aNil))))
    (sSeq (sAsg 7 (fCall 2 (fun ds => v_quotient_of C ds.reverse) (aCons (fOp oIx (fVar 5) (fC (.int 1))) (aCons (fOp oIx (fVar 5) (fC (.int 0))) aNil))))
    (sSeq (sIf (fOr (fNot (fCall 3 (v__law_is_worth C) (aCons (fVar 6) (aCons (fOp oIx (fVar 4) (fC (.int 0))) (aCons (fOp oIx (fVar 4) (fC (.int 1))) aNil))))) (fNot (fCall 3 (v__law_is_worth C) (aCons (fVar 7) (aCons (fOp oIx (fVar 5) (fC (.int 0))) (aCons (fOp oIx (fVar 5) (fC (.int 1))) aNil)))))) (sRet (fC (.bool false))) sNil)
    (sSeq (sAsg 8 (fOp oMul (fOp oIx (fVar 4) (fC (.int 1))) (fOp oIx (fVar 5) (fC (.int 1)))))
    (sSeq (sAsg 9 (fOp oAdd (fOp oMul (fOp oIx (fVar 4) (fC (.int 0))) (fOp oIx (fVar 5) (fC (.int 1)))) (fOp oMul (fOp oIx (fVar 5) (fC (.int 0))) (fOp oIx (fVar 4) (fC (.int 1))))))
    (sSeq (sIf (fNot (fCall 3 (v__law_is_worth C) (aCons (fCall 2 (v_plus C) (aCons (fVar 6) (aCons (fVar 7) aNil))) (aCons (fVar 9) (aCons (fVar 8) aNil))))) (sRet (fC (.bool false))) sNil)
    (sSeq (sIf (fNot (fCall 3 (v__law_is_worth C) (aCons (fCall 2 (v_plus C) (aCons (fVar 7) (aCons (fVar 6) aNil))) (aCons (fVar 9) (aCons (fVar 8) aNil))))) (sRet (fC (.bool false))) sNil)
    (sSeq (sIf (fNot (fCall 3 (v__law_is_worth C) (aCons (fCall 2 (v_times C) (aCons (fVar 6) (aCons (fVar 7) aNil))) (aCons (fOp oMul (fOp oIx (fVar 4) (fC (.int 0))) (fOp oIx (fVar 5) (fC (.int 0)))) (aCons (fVar 8) aNil))))) (sRet (fC (.bool false))) sNil)
    (sSeq (sIf (fOr (fOp oNeS (fCB bRepr (aCons (fCall 2 (v_plus C) (aCons (fVar 6) (aCons (fTup (aCons (fUn oNeg (fOp oIx (fVar 6) (fC (.int 0)))) (aCons (fOp oIx (fVar 6) (fC (.int 1))) aNil))) aNil))) aNil)) (fC (.str "(0, 1)"))) (fOp oIsNot (fCall 1 (v_is_quotient C) (aCons (fVar 6) aNil)) (fC (.bool true)))) (sRet (fC (.bool false))) sNil)
    (sIf (fOr (fOp oIsNot (fCall 1 (v_is_quotient C) (aCons (fTup (aCons (fOp oMul (fOp oIx (fVar 6) (fC (.int 0))) (fC (.int 3))) (aCons (fOp oMul (fOp oIx (fVar 6) (fC (.int 1))) (fC (.int 3))) aNil))) aNil)) (fC (.bool false))) (fOp oIsNot (fCall 1 (v_is_quotient C) (aCons (fFrz (fCB bList (aCons (fVar 6) aNil))) aNil)) (fC (.bool false)))) (sRet (fC (.bool false))) sNil)))))))))))) (fun k : Nat => PyData.int k)
    (fun rest ρ g => ∃ t1 t4 t5 t6 t7 t8 t9 : Option SV, ρ = [some .h, t1, none, none, t4, t5, t6, t7, t8, t9] ∧ Few g) ?_ (List.range 4) [some .h, none, none, none, none, none, none, none, none, none] g ⟨none, none, none, none, none, none, none, rfl, hg⟩
  · obtain ⟨ρ', g1, e, t1, t4, t5, t6, t7, t8, t9, rfl, c1⟩ := key
    obtain ⟨z1, g2, e2, z10, z11, c2⟩ := w_number (C := C) (ρ := [some .h, t1, none, none, t4, t5, t6, t7, t8, t9]) (g := g1) (i := 0) (n := 20) rfl w_c (by decide) c1
    obtain ⟨z2, g3, e3, z20, z21, c3⟩ := w_number (C := C) (ρ := [some .h, t1, some (.d (.int z1)), none, t4, t5, t6, t7, t8, t9]) (g := g2) (i := 0) (n := 19) rfl w_c (by decide) c2
    have a1 : z1.natAbs < 2 ^ 200 := nat_lt z10 z11 (by decide +kernel)
    have a2 : (-(1 + z2)).natAbs < 2 ^ 200 := by
      rw [Int.natAbs_neg]
      exact nat_lt1 z20 z21 (by decide +kernel)
    obtain ⟨x, y, r, eq⟩ := e_quotient_of (C := C) (t := z1) (b := -(1 + z2)) (k := 200) (by omega) a2 (by decide)
    have ew := e_is_worth (C := C) r a1 a2 (by decide) (by decide)
    refine ⟨g3, run_s ?_, c3⟩
    refine Eq.trans (u_seq (Eq.trans (u_for (w_rng1 (n := 4) (w_cons w_c w_nil) (by decide))) e)) ?_
    refine Eq.trans (u_seq (u_set e2)) ?_
    refine Eq.trans (u_seq (u_set (w_op w_c e3 rfl))) ?_
    exact u_ret (w_call (w_cons (w_call (w_cons w_var (w_cons (w_un w_var rfl) w_nil)) rfl rfl eq) (w_cons w_var (w_cons (w_un w_var rfl) w_nil))) rfl rfl ew)
  · rintro k rest ρ g ⟨t1, t4, t5, t6, t7, t8, t9, rfl, c0⟩
    obtain ⟨h, l, g1, e1, l0, hb, lb, c1⟩ := e_quotient (C := C) c0
    obtain ⟨h', l', g2, e2, l0', hb', lb', c2⟩ := e_quotient (C := C) c1
    obtain ⟨a, c, r, q1⟩ := e_quotient_of (C := C) (t := h) (b := l) l0 lb (by decide)
    obtain ⟨a', c', r', q2⟩ := e_quotient_of (C := C) (t := h') (b := l') l0' lb' (by decide)
    have ab := Nat.lt_of_le_of_lt r.la hb
    have cb := Nat.lt_of_le_of_lt r.lc lb
    have ab' := Nat.lt_of_le_of_lt r'.la hb'
    have cb' := Nat.lt_of_le_of_lt r'.lc lb'
    have w1 := e_is_worth (C := C) r hb lb (by decide) (by decide)
    have w2 := e_is_worth (C := C) r' hb' lb' (by decide) (by decide)
    obtain ⟨x, y, rs, qs⟩ := e_plus (C := C) r.quo r'.quo ab cb ab' cb' (by decide) (by decide)
    obtain ⟨x2, y2, rs2, qs2⟩ := e_plus (C := C) r'.quo r.quo ab' cb' ab cb (by decide) (by decide)
    obtain ⟨x3, y3, rs3, qs3⟩ := e_times (C := C) r.quo r'.quo ab cb ab' cb' (by decide) (by decide)
    have qn : Quo (-a) c := ⟨r.pos, by show Nat.gcd (-a).natAbs c.natAbs = 1; rw [Int.natAbs_neg]; exact r.cop⟩
    obtain ⟨x4, y4, rs4, qs4⟩ := e_plus (C := C) r.quo qn ab cb (by rw [Int.natAbs_neg]; exact ab) cb (by decide) (by decide)
    obtain ⟨rfl, rfl⟩ := zero_sum r.quo rs4
    have lowb : (l * l').natAbs < 2 ^ 241 := wk (natAbs_mul_lt lb lb') (by decide)
    have highb : (h * l' + h' * l).natAbs < 2 ^ 241 := add_lt (natAbs_mul_lt hb lb') (natAbs_mul_lt hb' lb)
    have hhb : (h * h').natAbs < 2 ^ 241 := wk (natAbs_mul_lt hb hb') (by decide)
    have sb : (a * c' + a' * c).natAbs < 2 ^ 241 := add_lt (natAbs_mul_lt ab cb') (natAbs_mul_lt ab' cb)
    have cc : (c * c').natAbs < 2 ^ 241 := wk (natAbs_mul_lt cb cb') (by decide)
    have sb2 : (a' * c + a * c').natAbs < 2 ^ 241 := add_lt (natAbs_mul_lt ab' cb) (natAbs_mul_lt ab cb')
    have cc2 : (c' * c).natAbs < 2 ^ 241 := wk (natAbs_mul_lt cb' cb) (by decide)
    have mb : (a * a').natAbs < 2 ^ 241 := wk (natAbs_mul_lt ab ab') (by decide)
    have v1 := e_is_worth2 (C := C) rs.pos (sum_eq r r' rs.eq) rs.cop (Nat.lt_of_le_of_lt rs.la sb) (Nat.lt_of_le_of_lt rs.lc cc) highb lowb (by decide) (by decide)
    have es2 : x2 * (l * l') = (h * l' + h' * l) * y2 := by
      rw [Int.mul_comm l l', Int.add_comm (h * l')]
      exact sum_eq r' r rs2.eq
    have v2 := e_is_worth2 (C := C) rs2.pos es2 rs2.cop (Nat.lt_of_le_of_lt rs2.la sb2) (Nat.lt_of_le_of_lt rs2.lc cc2) highb lowb (by decide) (by decide)
    have v3 := e_is_worth2 (C := C) rs3.pos (mul_eq r r' rs3.eq) rs3.cop (Nat.lt_of_le_of_lt rs3.la mb) (Nat.lt_of_le_of_lt rs3.lc cc) hhb lowb (by decide) (by decide)
    have three : (3 : Int).natAbs < 2 ^ 10 := by decide
    refine ⟨_, _, g2, rfl, ?_, some (.d (.int (k : Nat))), some (.d (qt h l)), some (.d (qt h' l')), some (.d (qt a c)), some (.d (qt a' c')), some (.d (.int (l * l'))), some (.d (.int (h * l' + h' * l))), rfl, c2⟩
    refine Eq.trans (u_seq (u_set (w_callS (w_cons (w_varH rfl) w_nil) rfl rfl e1))) ?_
    refine Eq.trans (u_seq (u_set (w_callS (w_cons (w_varH rfl) w_nil) rfl rfl e2))) ?_
    refine Eq.trans (u_seq (u_set (w_call (w_cons (w_op w_var w_c rfl) (w_cons (w_op w_var w_c rfl) w_nil)) rfl rfl q1))) ?_
    refine Eq.trans (u_seq (u_set (w_call (w_cons (w_op w_var w_c rfl) (w_cons (w_op w_var w_c rfl) w_nil)) rfl rfl (show (fun ds : List PyData => v_quotient_of C ds.reverse) [.int l', .int h'] = okD (qt a' c') from q2)))) ?_
    refine Eq.trans (u_seq (Eq.trans (u_ifF (w_or (p := false) (q := false) (w_not (w_call (w_cons w_var (w_cons (w_op w_var w_c rfl) (w_cons (w_op w_var w_c rfl) w_nil))) rfl rfl w1)) fun _ => w_not (w_call (w_cons w_var (w_cons (w_op w_var w_c rfl) (w_cons (w_op w_var w_c rfl) w_nil))) rfl rfl w2))) u_nil)) ?_
    refine Eq.trans (u_seq (u_set (w_op (w_op w_var w_c rfl) (w_op w_var w_c rfl) (o_mul lb lb' (by decide) (by decide) (by decide))))) ?_
    refine Eq.trans (u_seq (u_set (w_op (w_op (w_op w_var w_c rfl) (w_op w_var w_c rfl) (o_mul hb lb' (by decide) (by decide) (by decide))) (w_op (w_op w_var w_c rfl) (w_op w_var w_c rfl) (o_mul hb' lb (by decide) (by decide) (by decide))) rfl))) ?_
    refine Eq.trans (u_seq (Eq.trans (u_ifF (w_not (w_call (w_cons (w_call (w_cons w_var (w_cons w_var w_nil)) rfl rfl qs) (w_cons w_var (w_cons w_var w_nil))) rfl rfl v1))) u_nil)) ?_
    refine Eq.trans (u_seq (Eq.trans (u_ifF (w_not (w_call (w_cons (w_call (w_cons w_var (w_cons w_var w_nil)) rfl rfl qs2) (w_cons w_var (w_cons w_var w_nil))) rfl rfl v2))) u_nil)) ?_
    refine Eq.trans (u_seq (Eq.trans (u_ifF (w_not (w_call (w_cons (w_call (w_cons w_var (w_cons w_var w_nil)) rfl rfl qs3) (w_cons (w_op (w_op w_var w_c rfl) (w_op w_var w_c rfl) (o_mul hb hb' (by decide) (by decide) (by decide))) (w_cons w_var w_nil))) rfl rfl v3))) u_nil)) ?_
    refine Eq.trans (u_seq (Eq.trans (u_ifF (w_or (p := false) (q := false) (w_op (w_cb (w_cons (w_call (w_cons w_var (w_cons (w_tup (ds := [.int (-a), .int c]) (w_cons (w_un (w_op w_var w_c rfl) rfl) (w_cons (w_op w_var w_c rfl) w_nil)) rfl (show 2 ≤ 1000 by decide)) w_nil)) rfl rfl qs4) w_nil) repr01) w_c (o_neS _)) fun _ => w_op (w_call (w_cons w_var w_nil) rfl rfl r.quo.is) w_c o_notT)) u_nil)) ?_
    exact Eq.trans (u_ifF (w_or (p := false) (q := false) (w_op (w_call (w_cons (w_tup (ds := [.int (a * 3), .int (c * 3)]) (w_cons (w_op (w_op w_var w_c rfl) w_c (o_mul ab three (by decide) (by decide) (by decide))) (w_cons (w_op (w_op w_var w_c rfl) w_c (o_mul cb three (by decide) (by decide) (by decide))) w_nil)) rfl (show 2 ≤ 1000 by decide)) w_nil) rfl rfl (is_quotient3 a c)) w_c o_notF) fun _ => w_op (w_call (w_cons (w_frzL (w_cb (w_cons w_var w_nil) rfl)) w_nil) rfl rfl (is_quotient_list a c)) w_c o_notF)) u_nil
end K1

set_option Elab.async false
set_option linter.all false
set_option autoImplicit false
set_option maxRecDepth 100000
set_option maxHeartbeats 1000000
namespace K1
open PySem PySem.Spec PyProof.Rows L2 Dn
variable {C : Addr}
def sg (i : Nat) : Int := if i % 2 = 0 then 1 else -1
structure RowStep (C : Addr) (i : Nat) : Prop where
  one : v_quotient_of C [.int 1, .int ((1 + (i : Int)) * (1 + (i : Int) + 1))] = okD (qt 1 ((1 + (i : Int)) * (1 + (i : Int) + 1)))
  sum : v_plus C [qt i (i + 1 : Nat), qt 1 ((1 + (i : Int)) * (1 + (i : Int) + 1))] = okD (qt (i + 1 : Nat) (i + 1 + 1 : Nat))
  neg : v_quotient_of C [.int (-(1 + (i : Int))), .int (1 + (i : Int) + 1)] = okD (qt (-(1 + (i : Int))) (1 + (i : Int) + 1))
  mul : v_times C [qt (-(1 + (i : Int))) (1 + (i : Int) + 1), qt (sg i) (i + 1 : Nat)] = okD (qt (sg (i + 1)) (i + 1 + 1 : Nat))
theorem row_step : ∀ i : Nat, i < 19 → RowStep C i := fun i h => match i, h with
  | 0, _ => ⟨rfl, rfl, rfl, rfl⟩
  | 1, _ => ⟨rfl, rfl, rfl, rfl⟩
  | 2, _ => ⟨rfl, rfl, rfl, rfl⟩
  | 3, _ => ⟨rfl, rfl, rfl, rfl⟩
  | 4, _ => ⟨rfl, rfl, rfl, rfl⟩
  | 5, _ => ⟨rfl, rfl, rfl, rfl⟩
  | 6, _ => ⟨rfl, rfl, rfl, rfl⟩
  | 7, _ => ⟨rfl, rfl, rfl, rfl⟩
  | 8, _ => ⟨rfl, rfl, rfl, rfl⟩
  | 9, _ => ⟨rfl, rfl, rfl, rfl⟩
  | 10, _ => ⟨rfl, rfl, rfl, rfl⟩
  | 11, _ => ⟨rfl, rfl, rfl, rfl⟩
  | 12, _ => ⟨rfl, rfl, rfl, rfl⟩
  | 13, _ => ⟨rfl, rfl, rfl, rfl⟩
  | 14, _ => ⟨rfl, rfl, rfl, rfl⟩
  | 15, _ => ⟨rfl, rfl, rfl, rfl⟩
  | 16, _ => ⟨rfl, rfl, rfl, rfl⟩
  | 17, _ => ⟨rfl, rfl, rfl, rfl⟩
  | 18, _ => ⟨rfl, rfl, rfl, rfl⟩
  | n + 19, h => absurd h (by omega)
theorem row_repr : ∀ i : Nat, i < 19 → (PyData.tuple [qt (i + 1 : Nat) (i + 2 : Nat), qt (sg (i + 1)) (i + 2 : Nat)]).showable = true ∧ (PyData.tuple [qt (i + 1 : Nat) (i + 2 : Nat), qt (sg (i + 1)) (i + 2 : Nat)]).depth ≤ 60 ∧ (PyData.tuple [qt (i + 1 : Nat) (i + 2 : Nat), qt (sg (i + 1)) (i + 2 : Nat)]).shown.length ≤ sizeLine := by decide +kernel
theorem e_rows_fold {g : SrcG} (hg : Few g) : ∃ g', v__law_rows_fold C [.h] g = .ok (.d (.bool true)) g' ∧ Few g' := by
  obtain ⟨d, g1, ed, d0, d1, c1⟩ := w_draw (C := C) (ρ := envS [("_law_source" : Str), ("_law_many" : Str), ("_law_total" : Str), ("_law_product" : Str), ("_law_k" : Str), ("_law_sign" : Str)] [.h]) (g := g) (i := 0) rfl (φ := fC (.int 19)) w_c (by decide) (by decide) hg
  obtain ⟨z, rfl⟩ : ∃ z : Nat, d = z := ⟨d.toNat, by omega⟩
  have em : oAdd (.d (.int 2)) (.d (.int (z : Nat))) = some (.d (.int ((z + 2 : Nat) : Int))) := by
    show some (SV.d (.int (2 + (z : Int)))) = _
    congr 3
    omega
  have key := loop_invM (γ := SrcG) (asg := asgN 4) (body := sSeq (sAsg 2 (fCall 2 (v_plus C) (aCons (fVar 2) (aCons (fCall 2 (v_quotient_of C) (aCons (fC (.int 1)) (aCons (fOp oMul (fVar 4) (fOp oAdd (fVar 4) (fC (.int 1)))) aNil))) aNil))))
    (sAsg 3 (fCall 2 (v_times C) (aCons (fCall 2 (v_quotient_of C) (aCons (fUn oNeg (fVar 4)) (aCons (fOp oAdd (fVar 4) (fC (.int 1))) aNil))) (aCons (fVar 3) aNil))))) (fun k : Nat => PyData.int (1 + (k : Int)))
    (fun rest ρ g => ∃ (i : Nat) (t : Option SV), ρ = [some .h, some (.d (.int (z + 2 : Nat))), some (.d (qt i (i + 1 : Nat))), some (.d (qt (sg i) (i + 1 : Nat))), t, none] ∧ rest = (List.range (z + 1)).drop i ∧ i ≤ z + 1 ∧ g = g1) ?_ (List.range (z + 1)) [some .h, some (.d (.int (z + 2 : Nat))), some (.d (qt 0 1)), some (.d (qt 1 1)), none, none] g1 ⟨0, none, rfl, rfl, Nat.zero_le _, rfl⟩
  · obtain ⟨ρ', g', e, i, t, rfl, h1, h2, rfl⟩ := key
    have hi := drop_done h1 h2
    subst hi
    refine ⟨g', run_s ?_, c1⟩
    refine Eq.trans (u_seq (u_set (w_op w_c ed em))) ?_
    refine Eq.trans (u_seq (u_set (w_tup (ds := [.int 0, .int 1]) (w_cons w_c (w_cons w_c w_nil)) rfl (by decide)))) ?_
    refine Eq.trans (u_seq (u_set (w_tup (ds := [.int 1, .int 1]) (w_cons w_c (w_cons w_c w_nil)) rfl (by decide)))) ?_
    refine Eq.trans (u_seq (Eq.trans (u_for (w_rng2b (n := z + 1) (w_cons w_c (w_cons w_var w_nil)) (by omega) (by decide) (by decide) (by omega) (by omega))) e)) ?_
    have es : oSub (.d (.int (z + 2 : Nat))) (.d (.int 1)) = some (.d (.int (z + 1 : Nat))) := by
      show some (SV.d (.int ((z + 2 : Nat) - 1 : Int))) = _
      congr 3
      omega
    have emod : oMod (.d (.int (z + 1 : Nat))) (.d (.int 2)) = some (.d (.int ((z + 1) % 2 : Nat))) := o_mod (by decide)
    have esg : oIx (.l [.int 1, .int (-1)]) (.d (.int ((z + 1) % 2 : Nat))) = some (.d (.int (sg (z + 1)))) := by
      refine o_ixl ?_
      unfold sg
      rcases Nat.mod_two_eq_zero_or_one (z + 1) with q | q
      · rw [q]; rfl
      · rw [q]; rfl
    refine Eq.trans (u_seq (u_set (w_op (w_lst (w_cons w_c (w_cons (w_un w_c rfl) w_nil)) rfl (show 2 ≤ 1000 by decide)) (w_op (w_cb (w_cons (w_op w_var w_c es) w_nil) rfl) w_c emod) esg))) ?_
    have er : bRepr [.d (.tuple [qt (z + 1 : Nat) (z + 2 : Nat), qt (sg (z + 1)) (z + 2 : Nat)])] = some (.d (.str (PyData.tuple [qt (z + 1 : Nat) (z + 2 : Nat), qt (sg (z + 1)) (z + 2 : Nat)]).shown)) := by
      have := row_repr z (by omega)
      show (if (PyData.tuple [qt (z + 1 : Nat) (z + 2 : Nat), qt (sg (z + 1)) (z + 2 : Nat)]).showable = true ∧ _ ∧ _ then some (SV.d (.str _)) else none) = _
      rw [if_pos this]
    refine u_ret (w_op (w_cb (w_cons (w_tup (ds := [qt (z + 1 : Nat) (z + 2 : Nat), qt (sg (z + 1)) (z + 2 : Nat)]) (w_cons w_var (w_cons w_var w_nil)) rfl (show 2 ≤ 1000 by decide)) w_nil) er) (w_cb (w_cons (w_tup (ds := [qt (z + 1 : Nat) (z + 2 : Nat), qt (sg (z + 1)) (z + 2 : Nat)]) (w_cons (w_tup (ds := [.int (z + 1 : Nat), .int (z + 2 : Nat)]) (w_cons (w_op w_var w_c es) (w_cons w_var w_nil)) rfl (show 2 ≤ 1000 by decide)) (w_cons (w_tup (ds := [.int (sg (z + 1)), .int (z + 2 : Nat)]) (w_cons w_var (w_cons w_var w_nil)) rfl (show 2 ≤ 1000 by decide)) w_nil)) rfl (show 2 ≤ 1000 by decide)) w_nil) er) (o_eqS _))
  · rintro k rest ρ g ⟨i, t, rfl, h1, h2, rfl⟩
    obtain ⟨rfl, hr, hi⟩ := drop_range h1
    have st := row_step (C := C) k (by omega)
    refine ⟨_, _, g, rfl, ?_, k + 1, some (.d (.int (1 + (k : Int)))), rfl, hr, hi, rfl⟩
    refine Eq.trans (u_seq (u_set (w_call (w_cons w_var (w_cons (w_call (w_cons w_c (w_cons (w_op w_var (w_op w_var w_c rfl) (o_mulS (by omega) (by omega))) w_nil)) rfl rfl st.one) w_nil)) rfl rfl st.sum))) ?_
    exact u_set (w_call (w_cons (w_call (w_cons (w_un w_var rfl) (w_cons (w_op w_var w_c rfl) w_nil)) rfl rfl st.neg) (w_cons w_var w_nil)) rfl rfl st.mul)
end K1

set_option Elab.async false
set_option linter.all false
set_option autoImplicit false
set_option maxRecDepth 100000
set_option maxHeartbeats 1000000
namespace K1
open PySem PySem.Spec PyProof.Rows L2 Dn
variable {C : Addr}
/-! ### what is refused -/
structure Tell (w s : Str) : Prop where
  shw : (PyData.tuple [.str w, .int (-1)]).showable = true ∧ (PyData.tuple [.str w, .int (-1)]).depth ≤ 60 ∧ (PyData.tuple [.str w, .int (-1)]).shown.length ≤ sizeLine
  eq : (PyData.tuple [.str w, .int (-1)]).shown = s
theorem tell_setting : Tell "setting" "('setting', -1)" := ⟨by decide +kernel, by decide +kernel⟩
theorem tell_place : Tell "place" "('place', -1)" := ⟨by decide +kernel, by decide +kernel⟩
theorem tell_choices : Tell "choices" "('choices', -1)" := ⟨by decide +kernel, by decide +kernel⟩
theorem tell_sizes : Tell "sizes" "('sizes', -1)" := ⟨by decide +kernel, by decide +kernel⟩
theorem tell_bottom : Tell "bottom" "('bottom', -1)" := ⟨by decide +kernel, by decide +kernel⟩
theorem tell_top : Tell "top" "('top', -1)" := ⟨by decide +kernel, by decide +kernel⟩
theorem tell_other : Tell "other" "('other', -1)" := ⟨by decide +kernel, by decide +kernel⟩
theorem tell_one : Tell "one" "('one', -1)" := ⟨by decide +kernel, by decide +kernel⟩
theorem u_tryX {w s : Str} {ψ : SFn Unit} {ρ ρ' : Dn.Env} (t : Tell w s) (h : ψ ρ () = .exc C [("at", .int (-1)), ("word", .str w)] ρ' ()) (hl : 4 < ρ'.length) : sTryR 4 C "word" "at" ψ ρ () = .ret (.d (.str s)) () := by
  unfold sTryR
  rw [h]
  have e1 : List.lookup ("word" : Str) ([(("at" : Str), PyData.int (-1)), (("word" : Str), PyData.str w)] : List (Str × PyData)) = some (.str w) := by
    have a : (("word" : Str) == ("at" : Str)) = false := by decide +kernel
    have b : (("word" : Str) == ("word" : Str)) = true := by decide +kernel
    simp [List.lookup, a, b]
  have e2 : List.lookup ("at" : Str) ([(("at" : Str), PyData.int (-1)), (("word" : Str), PyData.str w)] : List (Str × PyData)) = some (.int (-1)) := by
    have a : (("at" : Str) == ("at" : Str)) = true := by decide +kernel
    simp [List.lookup, a]
  dsimp only
  rw [if_pos ⟨rfl, hl⟩, e1, e2]
  dsimp only
  rw [if_pos t.shw, t.eq]
theorem u_tryN {ψ : SFn Unit} {ρ ρ' : Dn.Env} (h : ψ ρ () = .next ρ' ()) : sTryR 4 C "word" "at" ψ ρ () = .next ρ' () := by
  unfold sTryR
  rw [h]
abbrev nR : List Str := [("_law_number_here" : Str), ("_law_sizes_here" : Str), ("_law_worth" : Str), ("_law_lot" : Str), ("bad" : Str), ("_law_size" : Str)]
section
variable {ns : List Int} {x : PyData} {spot : Nat}
abbrev rho (j : Int) (ns : List Int) (x : PyData) (spot : Nat) : Dn.Env := [some (.d (.int j)), some (.d (tI ns)), some (.d x), some (.d (tN [spot])), none, none]
/-- what the number asks for -/
def br (C : Addr) : Nat → SFn Unit
  | 0 => sDrop (fCall 2 (v_setting_at C) (aCons (fVar 1) (aCons (fVar 2) aNil)))
  | 1 => sDrop (fCall 2 (v_place_of C) (aCons (fVar 1) (aCons (fVar 2) aNil)))
  | 2 => sDrop (fCall 3 (v_choices_on C) (aCons (fVar 1) (aCons (fVar 2) (aCons (fVar 3) aNil))))
  | 3 => sDrop (fCall 4 (v_put_on C) (aCons (fVar 1) (aCons (fCB bTuple (aCons (fLc [5] (iAny (fVar 1)) (asgN 5) fYes (fC (.int 0))) aNil)) (aCons (fVar 3) (aCons (fVar 2) aNil)))))
  | 4 => sDrop (fListG C 1 (v_settings_of C) (aCons (fVar 2) aNil))
  | 5 => sDrop (fCall 2 (v_quotient_of C) (aCons (fVar 2) (aCons (fC (.int 0)) aNil)))
  | 6 => sDrop (fCall 2 (v_plus C) (aCons (fTup (aCons (fC (.int 1)) (aCons (fC (.int 2)) aNil))) (aCons (fVar 2) aNil)))
  | _ => sDrop (fCall 2 (v_times C) (aCons (fVar 2) (aCons (fTup (aCons (fC (.int 1)) (aCons (fC (.int 2)) aNil))) aNil)))
theorem ifs_at (j : Nat) (hj : j ≤ 7) : (sIf (fOp oEqS (fVar 0) (fC (.int 0))) (br C 0) (sIf (fOp oEqS (fVar 0) (fC (.int 1))) (br C 1) (sIf (fOp oEqS (fVar 0) (fC (.int 2))) (br C 2) (sIf (fOp oEqS (fVar 0) (fC (.int 3))) (br C 3) (sIf (fOp oEqS (fVar 0) (fC (.int 4))) (br C 4) (sIf (fOp oEqS (fVar 0) (fC (.int 5))) (br C 5) (sIf (fOp oEqS (fVar 0) (fC (.int 6))) (br C 6) (br C 7)))))))) (rho j ns x spot) () = br C j (rho j ns x spot) () := by
  match j, hj with
  | 0, _ => exact u_ifT (w_op w_var w_c rfl)
  | 1, _ => exact Eq.trans (u_ifF (w_op w_var w_c rfl)) (u_ifT (w_op w_var w_c rfl))
  | 2, _ => exact Eq.trans (u_ifF (w_op w_var w_c rfl)) (Eq.trans (u_ifF (w_op w_var w_c rfl)) (u_ifT (w_op w_var w_c rfl)))
  | 3, _ => exact Eq.trans (u_ifF (w_op w_var w_c rfl)) (Eq.trans (u_ifF (w_op w_var w_c rfl)) (Eq.trans (u_ifF (w_op w_var w_c rfl)) (u_ifT (w_op w_var w_c rfl))))
  | 4, _ => exact Eq.trans (u_ifF (w_op w_var w_c rfl)) (Eq.trans (u_ifF (w_op w_var w_c rfl)) (Eq.trans (u_ifF (w_op w_var w_c rfl)) (Eq.trans (u_ifF (w_op w_var w_c rfl)) (u_ifT (w_op w_var w_c rfl)))))
  | 5, _ => exact Eq.trans (u_ifF (w_op w_var w_c rfl)) (Eq.trans (u_ifF (w_op w_var w_c rfl)) (Eq.trans (u_ifF (w_op w_var w_c rfl)) (Eq.trans (u_ifF (w_op w_var w_c rfl)) (Eq.trans (u_ifF (w_op w_var w_c rfl)) (u_ifT (w_op w_var w_c rfl))))))
  | 6, _ => exact Eq.trans (u_ifF (w_op w_var w_c rfl)) (Eq.trans (u_ifF (w_op w_var w_c rfl)) (Eq.trans (u_ifF (w_op w_var w_c rfl)) (Eq.trans (u_ifF (w_op w_var w_c rfl)) (Eq.trans (u_ifF (w_op w_var w_c rfl)) (Eq.trans (u_ifF (w_op w_var w_c rfl)) (u_ifT (w_op w_var w_c rfl)))))))
  | 7, _ => exact Eq.trans (u_ifF (w_op w_var w_c rfl)) (Eq.trans (u_ifF (w_op w_var w_c rfl)) (Eq.trans (u_ifF (w_op w_var w_c rfl)) (Eq.trans (u_ifF (w_op w_var w_c rfl)) (Eq.trans (u_ifF (w_op w_var w_c rfl)) (Eq.trans (u_ifF (w_op w_var w_c rfl)) (u_ifF (w_op w_var w_c rfl)))))))
theorem refX {w s : Str} (j : Nat) (hj : j ≤ 7) (t : Tell w s) (h : br C j (rho j ns x spot) () = .exc C [("at", .int (-1)), ("word", .str w)] (rho j ns x spot) ()) : v__law_refused C [.int j, tI ns, x, tN [spot]] = okD (.str s) := by
  refine run_seq_ret ?_
  exact u_seqR (u_tryX t (Eq.trans (ifs_at j hj) h) (show 4 < 6 by decide))
theorem refL (j : Nat) (hj : j ≤ 7) (h : br C j (rho j ns x spot) () = .next (rho j ns x spot) ()) : v__law_refused C [.int j, tI ns, x, tN [spot]] = okD (.str "let") := by
  refine run_seq_ret ?_
  exact Eq.trans (u_seq (u_tryN (Eq.trans (ifs_at j hj) h))) (u_ret w_c)
end
end K1

set_option Elab.async false
set_option linter.all false
set_option autoImplicit false
set_option maxRecDepth 100000
set_option maxHeartbeats 1000000
namespace K1
open PySem PySem.Spec PyProof.Rows L2 Dn
variable {C : Addr}
section
variable {ns : List Int} {spot : Nat}
theorem lot1 (h : spot < ns.length) (S : Sz ns) : Lot ns.length [spot] := ⟨List.pairwise_singleton _ _, fun x hx => by rw [List.mem_singleton.mp hx]; exact h, by show 1 ≤ 1000; decide⟩
abbrev zer (ns : List Int) : List Int := ns.map fun _ => 0
abbrev lst (ns : List Int) : List Int := ns.map fun s => s - 1
def ovr (ns : List Int) (spot : Nat) : List Int := (List.range ns.length).map fun k => ns.getD k 0 - (if k = spot then 0 else 1)
theorem getD_map (f : Int → Int) {i : Nat} (h : i < ns.length) : (ns.map f).getD i 0 = f (ns.getD i 0) := by
  rw [List.getD_eq_getElem?_getD, List.getD_eq_getElem?_getD, List.getElem?_map, List.getElem?_eq_getElem h]
  rfl
theorem size_at (S : Sz ns) {i : Nat} (h : i < ns.length) : 1 ≤ ns.getD i 0 ∧ ns.getD i 0 ≤ 4 := by
  rw [List.getD_eq_getElem?_getD, List.getElem?_eq_getElem h]
  exact S.all _ (List.getElem_mem h)
theorem st_zer (S : Sz ns) : St ns (zer ns) := ⟨List.length_map _, fun i h => by
  rw [getD_map _ h]
  have := size_at S h
  exact ⟨by decide, by show (0 : Int) < _; omega⟩⟩
theorem st_lst (S : Sz ns) : St ns (lst ns) := ⟨List.length_map _, fun i h => by
  rw [getD_map _ h]
  have := size_at S h
  exact ⟨by show 0 ≤ _ - 1; omega, by show _ - 1 < _; omega⟩⟩
theorem ovr_len : (ovr ns spot).length = ns.length := by unfold ovr; rw [List.length_map, List.length_range]
theorem ovr_at {i : Nat} (h : i < ns.length) : (ovr ns spot).getD i 0 = ns.getD i 0 - (if i = spot then 0 else 1) := by
  unfold ovr
  rw [List.getD_eq_getElem?_getD, List.getElem?_map, List.getElem?_range h]
  rfl
theorem over_bad (h : spot < ns.length) : rightB ns (tI (ovr ns spot)) = false := by
  cases e : rightB ns (tI (ovr ns spot)) with
  | false => rfl
  | true =>
    rw [rightB_tup, Bool.and_eq_true, List.all_eq_true] at e
    have h1 : ns[spot]? = some ns[spot] := List.getElem?_eq_getElem h
    have h2 : ((ovr ns spot).map PyData.int)[spot]? = some (.int ns[spot]) := by
      have hl : spot < (ovr ns spot).length := by rw [ovr_len]; exact h
      have := ovr_at (ns := ns) (spot := spot) h
      rw [List.getD_eq_getElem?_getD, List.getElem?_eq_getElem hl, List.getD_eq_getElem?_getD, h1, if_pos rfl] at this
      have this : (ovr ns spot)[spot] = ns[spot] - 0 := this
      rw [List.getElem?_map, List.getElem?_eq_getElem hl, this, Int.sub_zero]
      rfl
    have hz : (ns.zip ((ovr ns spot).map PyData.int))[spot]? = some (ns[spot], .int ns[spot]) := by
      rw [List.getElem?_zip_eq_some]
      exact ⟨h1, h2⟩
    have := e.2 _ (List.mem_of_getElem? hz)
    have : (decide (0 ≤ ns[spot]) && decide (ns[spot] < ns[spot])) = true := this
    rw [Bool.and_eq_true, decide_eq_true_iff, decide_eq_true_iff] at this
    omega
theorem w_zer {γ : Type} {ρ : Dn.Env} {g : γ} (S : Sz ns) (hi : ρ[1]? = some (some (.d (tI ns)))) (hk : 5 < ρ.length) : (fCB bTuple (aCons (fLc [5] (iAny (fVar 1)) (asgN 5) fYes (fC (.int 0))) aNil) : Fn γ) ρ g = .ok (.d (tI (zer ns))) g := by
  refine w_cb (w_cons (w_lc ns PyData.int (fun _ => .int 0) (w_any (w_var hi)) (by have := S.len; omega) fun x hx => ⟨(wipeE ρ [5]).set 5 (some (.d (.int x))), ?_, w_c⟩) w_nil) ?_
  · show (if 5 < (wipeE ρ [5]).length then _ else _) = _
    rw [if_pos (by show 5 < (ρ.set 5 none).length; rw [List.length_set]; exact hk)]
  · show some (SV.d (.tuple (ns.map fun _ => PyData.int 0))) = some (SV.d (.tuple ((ns.map fun _ => (0 : Int)).map PyData.int)))
    rw [List.map_map]
    rfl
abbrev due (j : Nat) (x : PyData) (s : Str) (C : Addr) (ns : List Int) (spot : Nat) : Prop := v__law_refused C [.int j, tI ns, x, tN [spot]] = okD (.str s)
theorem a_placeX (S : Sz ns) (hn : ns ≠ []) (x : PyData) (h : inR (prodZ ns) x = false) : due 0 x "('place', -1)" C ns spot :=
  refX 0 (by decide) tell_place (u_dropX (w_callX (w_cons w_var (w_cons w_var w_nil)) rfl rfl (e_setting_atX S hn x h)))
theorem a_place (S : Sz ns) (hn : ns ≠ []) : due 0 (.int (prodZ ns - 1)) "let" C ns spot :=
  refL 0 (by decide) (u_drop (w_call (w_cons w_var (w_cons w_var w_nil)) rfl rfl (e_setting_at S hn (by have := prod_pos S.all; omega) (by omega))))
theorem a_setX (S : Sz ns) (hn : ns ≠ []) (x : PyData) (h : rightB ns x = false) : due 1 x "('setting', -1)" C ns spot :=
  refX 1 (by decide) tell_setting (u_dropX (w_callX (w_cons w_var (w_cons w_var w_nil)) rfl rfl (e_place_ofX S hn x h)))
theorem a_set (S : Sz ns) (hn : ns ≠ []) : due 1 (tI (lst ns)) "let" C ns spot :=
  refL 1 (by decide) (u_drop (w_call (w_cons w_var (w_cons w_var w_nil)) rfl rfl (e_place_of S hn (st_lst S).len (st_lst S).zip)))
theorem a_chX (S : Sz ns) (hn : ns ≠ []) (x : PyData) (h : rightB ns x = false) : due 2 x "('setting', -1)" C ns spot :=
  refX 2 (by decide) tell_setting (u_dropX (w_callX (w_cons w_var (w_cons w_var (w_cons w_var w_nil))) rfl rfl (e_choices_onX S hn x h)))
theorem a_ch (S : Sz ns) (hn : ns ≠ []) (h : spot < ns.length) : due 2 (tI (lst ns)) "let" C ns spot :=
  refL 2 (by decide) (u_drop (w_call (w_cons w_var (w_cons w_var (w_cons w_var w_nil))) rfl rfl (e_choices_on S hn (st_lst S).len (st_lst S).zip (lot1 h S))))
theorem a_putX (S : Sz ns) (hn : ns ≠ []) (h : spot < ns.length) (x : PyData) (hx : rightB ([spot].map fun k => ns.getD k 0) x = false) : due 3 x "('choices', -1)" C ns spot :=
  refX 3 (by decide) tell_choices (u_dropX (w_callX (w_cons w_var (w_cons (w_zer S rfl (show 5 < 6 by decide)) (w_cons w_var (w_cons w_var w_nil)))) rfl rfl (e_put_onX x S hn (st_zer S).len (st_zer S).zip (lot1 h S) hx)))
theorem a_put (S : Sz ns) (hn : ns ≠ []) (h : spot < ns.length) : due 3 (tI [(lst ns).getD spot 0]) "let" C ns spot :=
  refL 3 (by decide) (u_drop (w_call (w_cons w_var (w_cons (w_zer S rfl (show 5 < 6 by decide)) (w_cons w_var (w_cons w_var w_nil)))) rfl rfl (put_is (hs := lst ns) S hn (st_zer S) (st_lst S) (lot1 h S))))
theorem take_sz (S : Sz ns) : Sz (ns.take spot) := by
  refine ⟨fun s hs => S.all s (List.mem_of_mem_take hs), by rw [List.length_take]; have := S.len; omega, ?_⟩
  have e : prodZ (ns.take spot) * prodZ (ns.drop spot) = prodZ ns := by rw [← prod_app, List.take_append_drop]
  have p1 := prod_pos (ns := ns.take spot) fun s hs => S.all s (List.mem_of_mem_take hs)
  have p2 := prod_pos (ns := ns.drop spot) fun s hs => S.all s (List.mem_of_mem_drop hs)
  exact le_of_mul (by rw [e]; exact S.prod) p1 p2
theorem a_szX (x : PyData) (hl : ∀ xs, x = .tuple xs → xs.length ≤ 100000) (h : sizesB x = false) : due 4 x "('sizes', -1)" C ns spot :=
  refX 4 (by decide) tell_sizes (u_dropX (w_listGX (w_cons w_var w_nil) rfl rfl (e_settings_ofX x hl h)))
theorem a_sz (S : Sz ns) (h : ns.take spot ≠ []) : due 4 (tI (ns.take spot)) "let" C ns spot := by
  obtain ⟨n, hp, h1, h64⟩ := prod64 (take_sz (spot := spot) S)
  exact refL 4 (by decide) (u_drop (w_listG (w_cons w_var w_nil) rfl rfl (e_settings_of (take_sz S) h hp h64)))
theorem a_q7 : due 5 (.int 7) "('bottom', -1)" C ns spot := refX 5 (by decide) tell_bottom (u_dropX (w_callX (w_cons w_var (w_cons w_c w_nil)) rfl rfl (show v_quotient_of C [.int 7, .int 0] = xc C "bottom" by rfl)))
theorem a_qn : due 5 .none "('top', -1)" C ns spot := refX 5 (by decide) tell_top (u_dropX (w_callX (w_cons w_var (w_cons w_c w_nil)) rfl rfl (show v_quotient_of C [.none, .int 0] = xc C "top" by rfl)))
theorem w_half {γ : Type} {ρ : Dn.Env} {g : γ} : (fTup (aCons (fC (.int 1)) (aCons (fC (.int 2)) aNil)) : Fn γ) ρ g = .ok (.d (qt 1 2)) g := rfl
theorem a_p22 : due 6 (qt 2 2) "('other', -1)" C ns spot := refX 6 (by decide) tell_other (u_dropX (w_callX (w_cons w_half (w_cons w_var w_nil)) rfl rfl (show v_plus C [qt 1 2, qt 2 2] = xc C "other" by rfl)))
theorem a_p32 : due 6 (qt 3 2) "let" C ns spot := refL 6 (by decide) (u_drop (w_call (w_cons w_half (w_cons w_var w_nil)) rfl rfl (show v_plus C [qt 1 2, qt 3 2] = okD (qt 2 1) by rfl)))
theorem a_p12 : due 6 (qt 1 (-2)) "('other', -1)" C ns spot := refX 6 (by decide) tell_other (u_dropX (w_callX (w_cons w_half (w_cons w_var w_nil)) rfl rfl (show v_plus C [qt 1 2, qt 1 (-2)] = xc C "other" by rfl)))
theorem a_t03 : due 7 (qt 0 3) "('one', -1)" C ns spot := refX 7 (by decide) tell_one (u_dropX (w_callX (w_cons w_var (w_cons w_half w_nil)) rfl rfl (show v_times C [qt 0 3, qt 1 2] = xc C "one" by rfl)))
theorem a_t01 : due 7 (qt 0 1) "let" C ns spot := refL 7 (by decide) (u_drop (w_call (w_cons w_var (w_cons w_half w_nil)) rfl rfl (show v_times C [qt 0 1, qt 1 2] = okD (qt 0 1) by rfl)))
theorem a_tT1 : due 7 (.tuple [.bool true, .int 1]) "('one', -1)" C ns spot := refX 7 (by decide) tell_one (u_dropX (w_callX (w_cons w_var (w_cons w_half w_nil)) rfl rfl (show v_times C [.tuple [.bool true, .int 1], qt 1 2] = xc C "one" by rfl)))
end
end K1

set_option Elab.async false
set_option linter.all false
set_option autoImplicit false
set_option maxRecDepth 100000
set_option maxHeartbeats 1000000
namespace K1
open PySem PySem.Spec PyProof.Rows L2 Dn
variable {C : Addr}
section
variable {ns : List Int} {spot : Nat}
abbrev ask (j : Nat) (x : PyData) (s : Str) : PyData := .tuple [.int j, x, .str s]
def AskOk (C : Addr) (ns : List Int) (spot : Nat) (a : PyData) : Prop := ∃ j x s, a = ask j x s ∧
  ((j ≠ 4 ∧ due j x s C ns spot) ∨ (j = 4 ∧ ∃ pre w, x = .tuple pre ∧ Shy x w ∧ due 4 x (if pre = [] then "('sizes', -1)" else s) C ns spot))
theorem eq_nil_tup {pre : List PyData} {w : Nat} (h : Shy (.tuple pre) w) : oEqS (.d (.tuple pre)) (.d (.tuple [])) = some (.d (.bool (decide (pre = [])))) := by
  have s1 : SeqAt.shaped (.tuple pre) = true := by
    show ((PyData.tuple pre).canLay0 && decide ((PyData.tuple pre).depth ≤ 64)) = true
    rw [h.lay, decide_eq_true (Nat.le_trans h.dep (by decide))]
    rfl
  have s2 : SeqAt.shaped (.tuple []) = true := by decide +kernel
  show (if SeqAt.shaped (.tuple pre) = true ∧ SeqAt.shaped (.tuple []) = true then some (SV.d (.bool (PyData.eqv (.tuple pre) (.tuple [])))) else none) = _
  rw [if_pos ⟨s1, s2⟩]
  cases pre with
  | nil => rfl
  | cons a r => rfl
/-- one ask -/
theorem ask_step {ρ : Dn.Env} {g : SrcG} {a : PyData} {v0 v2 v4 v5 v6 v7 v8 v10 v11 : Option SV} (h : AskOk C ns spot a) :
    ∃ v, sSeq (sAsg 10 (fOp oIx (fVar 9) (fC (.int 2)))) (sSeq (sIf (fAnd (fOp oEqS (fOp oIx (fVar 9) (fC (.int 0))) (fC (.int 4))) (fOp oEqS (fOp oIx (fVar 9) (fC (.int 1))) (fTup aNil))) (sAsg 10 (fC (.str "('sizes', -1)"))) sNil)
      (sIf (fOp oNeS (fCall 4 (v__law_refused C) (aCons (fOp oIx (fVar 9) (fC (.int 0))) (aCons (fVar 1) (aCons (fOp oIx (fVar 9) (fC (.int 1))) (aCons (fTup (aCons (fVar 3) aNil)) aNil))))) (fVar 10)) (sRet (fC (.bool false))) sNil))
      [v0, some (.d (tI ns)), v2, some (.d (.int (spot : Nat))), v4, v5, v6, v7, v8, some (.d a), v10, v11] g = .next [v0, some (.d (tI ns)), v2, some (.d (.int (spot : Nat))), v4, v5, v6, v7, v8, some (.d a), v, v11] g := by
  obtain ⟨j, x, s, rfl, h⟩ := h
  have fin : ∀ (t : Str), due j x t C ns spot → (sIf (fOp oNeS (fCall 4 (v__law_refused C) (aCons (fOp oIx (fVar 9) (fC (.int 0))) (aCons (fVar 1) (aCons (fOp oIx (fVar 9) (fC (.int 1))) (aCons (fTup (aCons (fVar 3) aNil)) aNil))))) (fVar 10)) (sRet (fC (.bool false))) sNil : SFn SrcG)
      [v0, some (.d (tI ns)), v2, some (.d (.int (spot : Nat))), v4, v5, v6, v7, v8, some (.d (ask j x s)), some (.d (.str t)), v11] g = .next [v0, some (.d (tI ns)), v2, some (.d (.int (spot : Nat))), v4, v5, v6, v7, v8, some (.d (ask j x s)), some (.d (.str t)), v11] g := fun t ht =>
    Eq.trans (u_ifF (w_op (w_call (w_cons (w_op w_var w_c rfl) (w_cons w_var (w_cons (w_op w_var w_c rfl) (w_cons (w_tup (ds := [.int (spot : Nat)]) (w_cons w_var w_nil) rfl (show 1 ≤ 1000 by decide)) w_nil)))) rfl rfl ht) w_var (o_neS t))) u_nil
  have first : (sAsg 10 (fOp oIx (fVar 9) (fC (.int 2))) : SFn SrcG) [v0, some (.d (tI ns)), v2, some (.d (.int (spot : Nat))), v4, v5, v6, v7, v8, some (.d (ask j x s)), v10, v11] g = .next [v0, some (.d (tI ns)), v2, some (.d (.int (spot : Nat))), v4, v5, v6, v7, v8, some (.d (ask j x s)), some (.d (.str s)), v11] g := u_set (w_op w_var w_c rfl)
  have e0 : (fOp oEqS (fOp oIx (fVar 9) (fC (.int 0))) (fC (.int 4)) : Fn SrcG) [v0, some (.d (tI ns)), v2, some (.d (.int (spot : Nat))), v4, v5, v6, v7, v8, some (.d (ask j x s)), some (.d (.str s)), v11] g = .ok (.d (.bool (decide ((j : Int) = 4)))) g := w_op (w_op w_var w_c rfl) w_c (o_eqI _ _)
  rcases h with ⟨nj, hd⟩ | ⟨rfl, pre, w, rfl, hs, hd⟩
  · rw [decide_eq_false (by omega)] at e0
    have ec := w_and (q := false) (b := fOp oEqS (fOp oIx (fVar 9) (fC (.int 1))) (fTup aNil)) e0 fun z => by cases z
    exact ⟨some (.d (.str s)), Eq.trans (u_seq first) (Eq.trans (u_seq (Eq.trans (u_ifF ec) u_nil)) (fin s hd))⟩
  · rw [decide_eq_true (by decide)] at e0
    have e1 : (fOp oEqS (fOp oIx (fVar 9) (fC (.int 1))) (fTup aNil) : Fn SrcG) [v0, some (.d (tI ns)), v2, some (.d (.int (spot : Nat))), v4, v5, v6, v7, v8, some (.d (ask 4 (.tuple pre) s)), some (.d (.str s)), v11] g = .ok (.d (.bool (decide (pre = [])))) g := w_op (w_op w_var w_c rfl) (w_tup (ds := []) w_nil rfl (by decide)) (eq_nil_tup hs)
    have ec := w_and2 e0 e1
    by_cases z : pre = []
    · rw [decide_eq_true z] at ec
      rw [if_pos z] at hd
      exact ⟨some (.d (.str "('sizes', -1)")), Eq.trans (u_seq first) (Eq.trans (u_seq (Eq.trans (u_ifT ec) (u_set w_c))) (fin _ hd))⟩
    · rw [decide_eq_false z] at ec
      rw [if_neg z] at hd
      exact ⟨some (.d (.str s)), Eq.trans (u_seq first) (Eq.trans (u_seq (Eq.trans (u_ifF ec) u_nil)) (fin s hd))⟩
/-- all that is asked, as the rows of the text add it up -/
def ks0 (ns : List Int) : List PyData := [ask 0 (.int (prodZ ns)) "('place', -1)", ask 0 (.int (-1)) "('place', -1)", ask 0 (.int (prodZ ns - 1)) "let", ask 0 (.bool true) "('place', -1)"]
def ks1 (ns : List Int) (spot : Nat) : List PyData := [ask 1 (tI (ovr ns spot)) "('setting', -1)", ask 1 (tI (lst ns)) "let", ask 1 (.list ((lst ns).map PyData.int)) "('setting', -1)"]
def ks2 (ns : List Int) (spot : Nat) : List PyData := [ask 2 (tI (ovr ns spot)) "('setting', -1)", ask 2 (tI (lst ns)) "let", ask 3 (tI [(lst ns).getD spot 0]) "let"]
def ks3 (ns : List Int) (spot : Nat) : List PyData := [ask 3 (tI [(ovr ns spot).getD spot 0]) "('choices', -1)", ask 3 (tI [0, 0]) "('choices', -1)", ask 3 (.tuple []) "('choices', -1)"]
def ks4 (ns : List Int) (spot : Nat) : List PyData := [ask 3 (.list [.int 0]) "('choices', -1)", ask 3 (.tuple [.bool false]) "('choices', -1)", ask 4 (tI (ns.take spot)) "let"]
def ks5 (ns : List Int) (spot : Nat) : List PyData := [ask 4 (.tuple ((ns.take spot).map PyData.int ++ [.int 0])) "('sizes', -1)", ask 5 (.int 7) "('bottom', -1)", ask 5 .none "('top', -1)"]
def ks6 : List PyData := [ask 6 (qt 2 2) "('other', -1)", ask 6 (qt 3 2) "let", ask 6 (qt 1 (-2)) "('other', -1)"]
def ks7 : List PyData := [ask 7 (qt 0 3) "('one', -1)", ask 7 (qt 0 1) "let", ask 7 (.tuple [.bool true, .int 1]) "('one', -1)"]
theorem small_take (S : Sz ns) : ∀ c ∈ ns.take spot, Sm c := fun c hc => by
  have := S.all c (List.mem_of_mem_take hc)
  exact ⟨by omega, by omega⟩
theorem asks_ok (S : Sz ns) (hn : ns ≠ []) (h : spot < ns.length) : ∀ a ∈ ks0 ns ++ ks1 ns spot ++ ks2 ns spot ++ ks3 ns spot ++ ks4 ns spot ++ ks5 ns spot ++ ks6 ++ ks7, AskOk C ns spot a := by
  have nf : ∀ {j : Nat} {x : PyData} {s : Str}, j ≠ 4 → due j x s C ns spot → AskOk C ns spot (ask j x s) := fun nj hd => ⟨_, _, _, rfl, .inl ⟨nj, hd⟩⟩
  have sz := size_at S h
  have p1 := prod_pos S.all
  have pick : ∀ x : PyData, rightB [ns.getD spot 0] x = false → due 3 x "('choices', -1)" C ns spot := fun x hx => a_putX S hn h x hx
  have ov : (ovr ns spot).getD spot 0 = ns.getD spot 0 := by
    rw [ovr_at h, if_pos rfl]
    omega
  intro a ha
  simp only [ks0, ks1, ks2, ks3, ks4, ks5, ks6, ks7, List.mem_append, List.mem_cons, List.not_mem_nil, or_false] at ha
  rcases ha with (((((((ha | ha | ha | ha) | (ha | ha | ha)) | (ha | ha | ha)) | (ha | ha | ha)) | (ha | ha | ha)) | (ha | ha | ha)) | (ha | ha | ha)) | (ha | ha | ha)
  · subst ha; exact nf (by decide) (a_placeX S hn _ (by
      show (decide (0 ≤ prodZ ns) && decide (prodZ ns < prodZ ns)) = false
      rw [decide_eq_false (Int.lt_irrefl _), Bool.and_false]))
  · subst ha; exact nf (by decide) (a_placeX S hn _ rfl)
  · subst ha; exact nf (by decide) (a_place S hn)
  · subst ha; exact nf (by decide) (a_placeX S hn _ rfl)
  · subst ha; exact nf (by decide) (a_setX S hn _ (over_bad h))
  · subst ha; exact nf (by decide) (a_set S hn)
  · subst ha; exact nf (by decide) (a_setX S hn _ rfl)
  · subst ha; exact nf (by decide) (a_chX S hn _ (over_bad h))
  · subst ha; exact nf (by decide) (a_ch S hn h)
  · subst ha; exact nf (by decide) (a_put S hn h)
  · subst ha; exact nf (by decide) (pick _ (by
      rw [ov]
      show (decide (1 = 1) && ((decide (0 ≤ ns.getD spot 0) && decide (ns.getD spot 0 < ns.getD spot 0)) && true)) = false
      rw [decide_eq_false (Int.lt_irrefl _), Bool.and_false]
      rfl))
  · subst ha; exact nf (by decide) (pick _ rfl)
  · subst ha; exact nf (by decide) (pick _ rfl)
  · subst ha; exact nf (by decide) (pick _ rfl)
  · subst ha; exact nf (by decide) (pick _ rfl)
  · subst ha
    refine ⟨4, _, _, rfl, .inr ⟨rfl, _, _, rfl, (shy_tI (small_take S)).1, ?_⟩⟩
    by_cases z : (ns.take spot).map PyData.int = []
    · rw [if_pos z]
      have e : tI (ns.take spot) = .tuple [] := by show PyData.tuple ((ns.take spot).map PyData.int) = _; rw [z]
      rw [e]
      exact a_szX _ (fun xs e => by cases e; exact Nat.zero_le _) rfl
    · rw [if_neg z]
      exact a_sz S fun q => z (by rw [q]; rfl)
  · subst ha
    have e : (ns.take spot).map PyData.int ++ [.int 0] = (ns.take spot ++ [0]).map PyData.int := by rw [List.map_append]; rfl
    rw [e]
    refine ⟨4, _, _, rfl, .inr ⟨rfl, _, _, rfl, (shy_tI fun c hc => ?_).1, ?_⟩⟩
    · rcases List.mem_append.mp hc with q | q
      · exact small_take S c q
      · rw [List.mem_singleton.mp q]; exact ⟨by decide, by decide⟩
    · rw [if_neg (fun q => by rw [List.map_append] at q; simp at q)]
      refine a_szX _ (fun xs e => by cases e; rw [List.length_map, List.length_append, List.length_take]; show min _ _ + 1 ≤ _; have := S.len; omega) ?_
      show (decide (0 < ((ns.take spot ++ [0]).map PyData.int).length) && ((ns.take spot ++ [0]).map PyData.int).all (atL 1)) = false
      rw [List.map_append, List.all_append]
      have : ([(0 : Int)].map PyData.int).all (atL 1) = false := rfl
      rw [this, Bool.and_false, Bool.and_false]
  · subst ha; exact nf (by decide) a_q7
  · subst ha; exact nf (by decide) a_qn
  · subst ha; exact nf (by decide) a_p22
  · subst ha; exact nf (by decide) a_p32
  · subst ha; exact nf (by decide) a_p12
  · subst ha; exact nf (by decide) a_t03
  · subst ha; exact nf (by decide) a_t01
  · subst ha; exact nf (by decide) a_tT1
end
end K1

set_option Elab.async false
set_option linter.all false
set_option autoImplicit false
set_option maxRecDepth 100000
set_option maxHeartbeats 1000000
namespace K1
open PySem PySem.Spec PyProof.Rows L2 Dn
variable {C : Addr}
section
variable {γ : Type} {ρ : Dn.Env} {g : γ}
theorem w_ask {φ : Fn γ} {j : Nat} {x : PyData} {s : Str} (h : φ ρ g = .ok (.d x) g) : (fTup (aCons (fC (.int j)) (aCons φ (aCons (fC (.str s)) aNil))) : Fn γ) ρ g = .ok (.d (ask j x s)) g := w_tup (ds := [.int j, x, .str s]) (w_cons w_c (w_cons h (w_cons w_c w_nil))) rfl (show 3 ≤ 1000 by decide)
theorem o_cat {xs ys : List PyData} (h : xs.length + ys.length ≤ 100000) : oAddL (.b xs) (.l ys) = some (.l (xs ++ ys)) := by
  show (if xs.length + ys.length ≤ 100000 then some (SV.l (xs ++ ys)) else none) = _
  rw [if_pos h]
theorem cut_take (xs : List PyData) (k : Nat) (h : k ≤ xs.length) : Dn.cutD xs none (some (k : Int)) = xs.take k := by
  unfold Dn.cutD
  rw [HT.sIx_none, HT.sIx_nat, List.drop_zero, Nat.sub_zero, Nat.min_eq_left h]
theorem w_slT {i j : Nat} {xs : List PyData} {k : Nat} (hi : ρ[i]? = some (some (.d (.tuple xs)))) (hj : ρ[j]? = some (some (.d (.int k)))) (h : k ≤ xs.length) : (fSl oSl (fVar i) none (some (fVar j)) : Fn γ) ρ g = .ok (.d (.tuple (xs.take k))) g := by
  have e1 : (fVar i : Fn γ) ρ g = .ok (.d (.tuple xs)) g := w_var hi
  have e2 : (fVar j : Fn γ) ρ g = .ok (.d (.int k)) g := w_var hj
  unfold fSl
  rw [e1]
  show ((fVar j : Fn γ) ρ g).bind _ = _
  rw [e2]
  show Out.of (oSl (.d (.tuple xs)) none (some (k : Int))) g = _
  show Out.ok (SV.d (.tuple (Dn.cutD xs none (some (k : Int))))) g = _
  rw [cut_take xs k h]
end
theorem take_map (ns : List Int) (k : Nat) : (ns.map PyData.int).take k = (ns.take k).map PyData.int := by rw [List.map_take]
theorem w_slI {γ : Type} {ρ : Dn.Env} {g : γ} {i j : Nat} {ns : List Int} {k : Nat} (hi : ρ[i]? = some (some (.d (tI ns)))) (hj : ρ[j]? = some (some (.d (.int k)))) (h : k ≤ ns.length) : (fSl oSl (fVar i) none (some (fVar j)) : Fn γ) ρ g = .ok (.d (tI (ns.take k))) g := by
  have e := w_slT (g := g) hi hj (by rw [List.length_map]; exact h)
  rw [take_map] at e
  exact e
abbrev nE : List Str := [("_law_source" : Str), ("_law_sizes_here" : Str), ("_law_n" : Str), ("_law_spot" : Str), ("_law_last" : Str), ("_law_over" : Str), ("_law_ways" : Str), ("_law_size" : Str), ("_law_asks" : Str), ("_law_each" : Str), ("_law_due" : Str), ("_law_k" : Str)]
theorem ways_loop {ns : List Int} (S : Sz ns) (a b c d e f : Option SV) (h8 h9 h10 h11 : Option SV) (g : SrcG) : ∃ t, loopD (asgN 7) (sAsg 6 (fOp oMul (fVar 6) (fVar 7))) (ns.map PyData.int) [a, b, c, d, e, f, some (.d (.int 1)), none, h8, h9, h10, h11] g = .next [a, b, c, d, e, f, some (.d (.int (prodZ ns))), t, h8, h9, h10, h11] g := by
  have key := loop_invM (γ := SrcG) (asg := asgN 7) (body := sAsg 6 (fOp oMul (fVar 6) (fVar 7))) PyData.int (fun rest ρ g1 => ∃ (m : Int) (t : Option SV), ρ = [a, b, c, d, e, f, some (.d (.int m)), t, h8, h9, h10, h11] ∧ 1 ≤ m ∧ m * prodZ rest = prodZ ns ∧ (∀ s ∈ rest, 1 ≤ s ∧ s ≤ 4) ∧ g1 = g) ?_ ns _ g ⟨1, none, rfl, by decide, by rw [Int.one_mul], S.all, rfl⟩
  · obtain ⟨ρ', g', e, m, t, rfl, h1, h2, _, rfl⟩ := key
    have h2 : m * 1 = prodZ ns := h2
    rw [Int.mul_one] at h2
    subst h2
    exact ⟨t, e⟩
  · rintro s rest ρ g1 ⟨m, t, rfl, h1, h2, h3, rfl⟩
    obtain ⟨a1, a2⟩ := h3 s List.mem_cons_self
    have p1 := prod_pos h3
    have mle : m ≤ 64 := le_of_mul (by rw [h2]; exact S.prod) h1 p1
    refine ⟨_, _, g1, rfl, u_set (w_op w_var w_var (o_mulS (by omega) (by omega))), m * s, some (.d (.int s)), rfl, ?_, ?_, fun x hx => h3 x (List.mem_cons_of_mem _ hx), rfl⟩
    · have := Int.mul_le_mul h1 a1 (by decide) (by omega)
      omega
    · rw [Int.mul_assoc]; exact h2
theorem asks_loop {ns : List Int} {spot : Nat} (as : List PyData) (h : ∀ a ∈ as, AskOk C ns spot a) (v0 v2 v4 v5 v6 v7 v8 v11 : Option SV) (g : SrcG) : ∃ t u, loopD (asgN 9) (sSeq (sAsg 10 (fOp oIx (fVar 9) (fC (.int 2)))) (sSeq (sIf (fAnd (fOp oEqS (fOp oIx (fVar 9) (fC (.int 0))) (fC (.int 4))) (fOp oEqS (fOp oIx (fVar 9) (fC (.int 1))) (fTup aNil))) (sAsg 10 (fC (.str "('sizes', -1)"))) sNil)
      (sIf (fOp oNeS (fCall 4 (v__law_refused C) (aCons (fOp oIx (fVar 9) (fC (.int 0))) (aCons (fVar 1) (aCons (fOp oIx (fVar 9) (fC (.int 1))) (aCons (fTup (aCons (fVar 3) aNil)) aNil))))) (fVar 10)) (sRet (fC (.bool false))) sNil))) as
      [v0, some (.d (tI ns)), v2, some (.d (.int (spot : Nat))), v4, v5, v6, v7, v8, none, none, v11] g = .next [v0, some (.d (tI ns)), v2, some (.d (.int (spot : Nat))), v4, v5, v6, v7, v8, t, u, v11] g := by
  have key := loop_inv (γ := SrcG) (asg := asgN 9) (body := sSeq (sAsg 10 (fOp oIx (fVar 9) (fC (.int 2)))) (sSeq (sIf (fAnd (fOp oEqS (fOp oIx (fVar 9) (fC (.int 0))) (fC (.int 4))) (fOp oEqS (fOp oIx (fVar 9) (fC (.int 1))) (fTup aNil))) (sAsg 10 (fC (.str "('sizes', -1)"))) sNil)
      (sIf (fOp oNeS (fCall 4 (v__law_refused C) (aCons (fOp oIx (fVar 9) (fC (.int 0))) (aCons (fVar 1) (aCons (fOp oIx (fVar 9) (fC (.int 1))) (aCons (fTup (aCons (fVar 3) aNil)) aNil))))) (fVar 10)) (sRet (fC (.bool false))) sNil)))
    (fun rest ρ g1 => ∃ t u, ρ = [v0, some (.d (tI ns)), v2, some (.d (.int (spot : Nat))), v4, v5, v6, v7, v8, t, u, v11] ∧ (∀ a ∈ rest, AskOk C ns spot a) ∧ g1 = g) ?_ as _ g ⟨none, none, rfl, h, rfl⟩
  · obtain ⟨ρ', g', e, t, u, rfl, _, rfl⟩ := key
    exact ⟨t, u, e⟩
  · rintro a rest ρ g1 ⟨t, u, rfl, ha, rfl⟩
    obtain ⟨v, e⟩ := ask_step (C := C) (ρ := []) (g := g1) (v0 := v0) (v2 := v2) (v4 := v4) (v5 := v5) (v6 := v6) (v7 := v7) (v8 := v8) (v10 := u) (v11 := v11) (ha a List.mem_cons_self)
    exact ⟨_, _, g1, rfl, e, some (.d a), v, rfl, fun x hx => ha x (List.mem_cons_of_mem _ hx), rfl⟩
theorem e_ends_hold {ns : List Int} {g : SrcG} (S : Sz ns) (hn : ns ≠ []) (hg : Few g) : ∃ g', v__law_ends_hold C [.h, .d (tI ns)] g = .ok (.d (.bool true)) g' ∧ Few g' := by
  have n6 := S.len
  have n1 : 1 ≤ ns.length := by
    cases ns with
    | nil => exact absurd rfl hn
    | cons a r => exact Nat.succ_le_succ (Nat.zero_le _)
  obtain ⟨d, g1, ed, d0, d1, c1⟩ := w_draw (C := C) (ρ := [some .h, some (.d (tI ns)), some (.d (.int (ns.length : Int))), none, none, none, none, none, none, none, none, none]) (g := g) (i := 0) rfl (φ := fVar 2) (w_var (x := .int (ns.length : Int)) rfl) (by omega) (by omega) hg
  obtain ⟨spot, rfl⟩ : ∃ k : Nat, d = k := ⟨d.toNat, by omega⟩
  have h : spot < ns.length := by omega
  refine ⟨g1, run_s ?_, c1⟩
  have elen : (fCB bLen (aCons (fVar 1) aNil) : Fn SrcG) (envS nE [.h, .d (tI ns)]) g = .ok (.d (.int (ns.length : Int))) g := w_cb (w_cons w_var w_nil) (by
    show some (SV.d (.int ((ns.map PyData.int).length : Int))) = _
    rw [List.length_map])
  refine Eq.trans (u_seq (u_set elen)) ?_
  refine Eq.trans (u_seq (u_set ed)) ?_
  -- last
  have elast : (fCB bTuple (aCons (fLc [7] (iAny (fVar 1)) (asgN 7) fYes (fOp oSub (fVar 7) (fC (.int 1)))) aNil) : Fn SrcG) [some .h, some (.d (tI ns)), some (.d (.int (ns.length : Int))), some (.d (.int (spot : Nat))), none, none, none, none, none, none, none, none] g1 = .ok (.d (tI (lst ns))) g1 := by
    refine w_cb (w_cons (w_lc ns PyData.int (fun s => .int (s - 1)) (w_any w_var) (by omega) fun x hx => ⟨[some .h, some (.d (tI ns)), some (.d (.int (ns.length : Int))), some (.d (.int (spot : Nat))), none, none, none, some (.d (.int x)), none, none, none, none], rfl, w_op w_var w_c rfl⟩) w_nil) ?_
    show some (SV.d (.tuple (ns.map fun s => PyData.int (s - 1)))) = some (SV.d (.tuple ((ns.map fun s => s - 1).map PyData.int)))
    rw [List.map_map]
    rfl
  refine Eq.trans (u_seq (u_set elast)) ?_
  -- over
  have eover : (fCB bTuple (aCons (fLc [11] (iRng1F (aCons (fVar 2) aNil)) (asgN 11) fYes (fOp oSub (fOp oIx (fVar 1) (fVar 11)) (fCB bInt (aCons (fOp oNeS (fVar 11) (fVar 3)) aNil)))) aNil) : Fn SrcG) [some .h, some (.d (tI ns)), some (.d (.int (ns.length : Int))), some (.d (.int (spot : Nat))), some (.d (tI (lst ns))), none, none, none, none, none, none, none] g1 = .ok (.d (tI (ovr ns spot))) g1 := by
    refine w_cb (w_cons (w_lc (List.range ns.length) (fun k : Nat => .int k) (fun k => .int (ns.getD k 0 - (if k = spot then 0 else 1))) (w_rng1 (w_cons w_var w_nil) (by omega)) (by rw [List.length_range]; omega) fun k hk => ⟨[some .h, some (.d (tI ns)), some (.d (.int (ns.length : Int))), some (.d (.int (spot : Nat))), some (.d (tI (lst ns))), none, none, none, none, none, none, some (.d (.int (k : Nat)))], rfl, ?_⟩) w_nil) ?_
    · have hk : k < ns.length := List.mem_range.mp hk
      have ek : (ns.map PyData.int)[k]? = some (.int (ns.getD k 0)) := by
        rw [List.getElem?_map, List.getElem?_eq_getElem hk]
        simp [hk]
      have eb : bInt [.d (.bool (!decide ((k : Int) = (spot : Int))))] = some (.d (.int (if k = spot then 0 else 1))) := by
        by_cases z : k = spot
        · rw [if_pos z, decide_eq_true (by omega)]; rfl
        · rw [if_neg z, decide_eq_false (by omega)]; rfl
      exact w_op (w_op w_var w_var (o_ixT ek)) (w_cb (w_cons (w_op w_var w_var (o_neI _ _)) w_nil) eb) rfl
    · show some (SV.d (.tuple ((List.range ns.length).map fun k => PyData.int (ns.getD k 0 - (if k = spot then 0 else 1))))) = some (SV.d (.tuple ((ovr ns spot).map PyData.int)))
      unfold ovr
      rw [List.map_map]
      rfl
  refine Eq.trans (u_seq (u_set eover)) ?_
  refine Eq.trans (u_seq (u_set w_c)) ?_
  obtain ⟨t7, eways⟩ := ways_loop S (some .h) (some (.d (tI ns))) (some (.d (.int (ns.length : Int)))) (some (.d (.int (spot : Nat)))) (some (.d (tI (lst ns)))) (some (.d (tI (ovr ns spot)))) none none none none g1
  refine Eq.trans (u_seq (Eq.trans (u_for (w_any w_var)) eways)) ?_
  -- the asks
  have E : ∀ (xs : List PyData), ∃ ρ : Dn.Env, ρ = [some .h, some (.d (tI ns)), some (.d (.int (ns.length : Int))), some (.d (.int (spot : Nat))), some (.d (tI (lst ns))), some (.d (tI (ovr ns spot))), some (.d (.int (prodZ ns))), t7, some (.l xs), none, none, none] := fun xs => ⟨_, rfl⟩
  have el : ((lst ns).map PyData.int)[spot]? = some (.int ((lst ns).getD spot 0)) := by
    have hl : spot < (lst ns).length := by rw [List.length_map]; exact h
    rw [List.getElem?_map, List.getElem?_eq_getElem hl, List.getD_eq_getElem?_getD, List.getElem?_eq_getElem hl]
    rfl
  have eo : ((ovr ns spot).map PyData.int)[spot]? = some (.int ((ovr ns spot).getD spot 0)) := by
    have hl : spot < (ovr ns spot).length := by rw [ovr_len]; exact h
    rw [List.getElem?_map, List.getElem?_eq_getElem hl, List.getD_eq_getElem?_getD, List.getElem?_eq_getElem hl]
    rfl
  have hsl : spot ≤ (ns.map PyData.int).length := by rw [List.length_map]; omega
  refine Eq.trans (u_seq (u_set (w_lst (ds := ks0 ns) (w_cons (w_ask w_var) (w_cons (w_ask (w_un w_c rfl)) (w_cons (w_ask (w_op w_var w_c rfl)) (w_cons (w_ask w_c) w_nil)))) rfl (show 4 ≤ 1000 by decide)))) ?_
  refine Eq.trans (u_seq (u_set (w_op w_varL (w_lst (ds := ks1 ns spot) (w_cons (w_ask w_var) (w_cons (w_ask w_var) (w_cons (w_ask (w_frzL (w_cb (w_cons w_var w_nil) rfl))) w_nil))) rfl (show 3 ≤ 1000 by decide)) (o_cat (xs := ks0 ns) (show 4 + 3 ≤ 100000 by decide))))) ?_
  refine Eq.trans (u_seq (u_set (w_op w_varL (w_lst (ds := ks2 ns spot) (w_cons (w_ask w_var) (w_cons (w_ask w_var) (w_cons (w_ask (w_tup (ds := [.int ((lst ns).getD spot 0)]) (w_cons (w_op w_var w_var (o_ixT el)) w_nil) rfl (show 1 ≤ 1000 by decide))) w_nil))) rfl (show 3 ≤ 1000 by decide)) (o_cat (xs := ks0 ns ++ ks1 ns spot) (show 7 + 3 ≤ 100000 by decide))))) ?_
  refine Eq.trans (u_seq (u_set (w_op w_varL (w_lst (ds := ks3 ns spot) (w_cons (w_ask (w_tup (ds := [.int ((ovr ns spot).getD spot 0)]) (w_cons (w_op w_var w_var (o_ixT eo)) w_nil) rfl (show 1 ≤ 1000 by decide))) (w_cons (w_ask (w_tup (ds := [.int 0, .int 0]) (w_cons w_c (w_cons w_c w_nil)) rfl (by decide))) (w_cons (w_ask (w_tup (ds := []) w_nil rfl (by decide))) w_nil))) rfl (show 3 ≤ 1000 by decide)) (o_cat (xs := ks0 ns ++ ks1 ns spot ++ ks2 ns spot) (show 10 + 3 ≤ 100000 by decide))))) ?_
  refine Eq.trans (u_seq (u_set (w_op w_varL (w_lst (ds := ks4 ns spot) (w_cons (w_ask (w_frzL (w_lst (ds := [.int 0]) (w_cons w_c w_nil) rfl (by decide)))) (w_cons (w_ask (w_tup (ds := [.bool false]) (w_cons w_c w_nil) rfl (by decide))) (w_cons (w_ask (x := tI (ns.take spot)) (w_slI rfl rfl (Nat.le_of_lt h))) w_nil))) rfl (show 3 ≤ 1000 by decide)) (o_cat (xs := ks0 ns ++ ks1 ns spot ++ ks2 ns spot ++ ks3 ns spot) (show 13 + 3 ≤ 100000 by decide))))) ?_
  have eplus : oAdd (.d (.tuple ((ns.map PyData.int).take spot))) (.d (.tuple [.int 0])) = some (.d (.tuple ((ns.take spot).map PyData.int ++ [.int 0]))) := by
    show (if ((ns.map PyData.int).take spot).length + 1 ≤ 100000 then some (SV.d (.tuple ((ns.map PyData.int).take spot ++ [.int 0]))) else none) = _
    rw [if_pos (by rw [List.length_take, List.length_map]; omega), take_map]
  refine Eq.trans (u_seq (u_set (w_op w_varL (w_lst (ds := ks5 ns spot) (w_cons (w_ask (w_op (w_slT rfl rfl hsl) (w_tup (ds := [.int 0]) (w_cons w_c w_nil) rfl (by decide)) eplus)) (w_cons (w_ask w_c) (w_cons (w_ask w_c) w_nil))) rfl (show 3 ≤ 1000 by decide)) (o_cat (xs := ks0 ns ++ ks1 ns spot ++ ks2 ns spot ++ ks3 ns spot ++ ks4 ns spot) (show 16 + 3 ≤ 100000 by decide))))) ?_
  refine Eq.trans (u_seq (u_set (w_op w_varL (w_lst (ds := ks6) (w_cons (w_ask (w_tup (ds := [.int 2, .int 2]) (w_cons w_c (w_cons w_c w_nil)) rfl (by decide))) (w_cons (w_ask (w_tup (ds := [.int 3, .int 2]) (w_cons w_c (w_cons w_c w_nil)) rfl (by decide))) (w_cons (w_ask (w_tup (ds := [.int 1, .int (-2)]) (w_cons w_c (w_cons (w_un w_c rfl) w_nil)) rfl (by decide))) w_nil))) rfl (show 3 ≤ 1000 by decide)) (o_cat (xs := ks0 ns ++ ks1 ns spot ++ ks2 ns spot ++ ks3 ns spot ++ ks4 ns spot ++ ks5 ns spot) (show 19 + 3 ≤ 100000 by decide))))) ?_
  refine Eq.trans (u_seq (u_set (w_op w_varL (w_lst (ds := ks7) (w_cons (w_ask (w_tup (ds := [.int 0, .int 3]) (w_cons w_c (w_cons w_c w_nil)) rfl (by decide))) (w_cons (w_ask (w_tup (ds := [.int 0, .int 1]) (w_cons w_c (w_cons w_c w_nil)) rfl (by decide))) (w_cons (w_ask (w_tup (ds := [.bool true, .int 1]) (w_cons w_c (w_cons w_c w_nil)) rfl (by decide))) w_nil))) rfl (show 3 ≤ 1000 by decide)) (o_cat (xs := ks0 ns ++ ks1 ns spot ++ ks2 ns spot ++ ks3 ns spot ++ ks4 ns spot ++ ks5 ns spot ++ ks6) (show 22 + 3 ≤ 100000 by decide))))) ?_
  obtain ⟨t, u, eloop⟩ := asks_loop (C := C) (spot := spot) _ (asks_ok (C := C) S hn h) (some .h) (some (.d (.int (ns.length : Int)))) (some (.d (tI (lst ns)))) (some (.d (tI (ovr ns spot)))) (some (.d (.int (prodZ ns)))) t7 (some (.d (.list (ks0 ns ++ ks1 ns spot ++ ks2 ns spot ++ ks3 ns spot ++ ks4 ns spot ++ ks5 ns spot ++ ks6 ++ ks7)))) none g1
  refine Eq.trans (u_seq (Eq.trans (u_for (w_anyL w_var)) eloop)) ?_
  exact u_ret w_c
end K1

set_option Elab.async false
set_option linter.all false
set_option autoImplicit false
set_option maxRecDepth 100000
set_option maxHeartbeats 4000000
namespace K1
open PySem PySem.Spec PyProof.Rows L2 Dn
abbrev s_law : Stmt := top 51
def p_law (C_NotUsable : Addr) : SFn SrcG := (sSeq (sAsg 2 (fCallS 1 (v__law_sizes C_NotUsable) (aCons (fVar 1) aNil)))
  (sSeq (sAsg 3 (fC (.int 1)))
  (sSeq (sFor (iAny (fVar 2)) (asgN 4) (sAsg 3 (fOp oMul (fVar 3) (fVar 4))))
  (sSeq (sAsg 5 (fLc [6] (iRng1F (aCons (fVar 3) aNil)) (asgN 6) fYes (fCall 2 (v__law_counted C_NotUsable) (aCons (fVar 2) (aCons (fVar 6) aNil)))))
  (sFrz 5 (sSeq (sIf (fNot (fCall 2 (v__law_places_hold C_NotUsable) (aCons (fVar 2) (aCons (fVar 5) aNil)))) (sRet (fC (.bool false))) sNil)
  (sSeq (sIf (fNot (fCallS 3 (v__law_choices_hold C_NotUsable) (aCons (fVar 1) (aCons (fVar 2) (aCons (fVar 5) aNil))))) (sRet (fC (.bool false))) sNil)
  (sSeq (sIf (fNot (fCallS 1 (v__law_quotients_hold C_NotUsable) (aCons (fVar 1) aNil))) (sRet (fC (.bool false))) sNil)
  (sRet (fAnd (fCallS 1 (v__law_rows_fold C_NotUsable) (aCons (fVar 1) aNil)) (fCallS 2 (v__law_ends_hold C_NotUsable) (aCons (fVar 1) (aCons (fVar 2) aNil)))))))))))))
abbrev nL : List Str := [("_law_script" : Str), ("_law_source" : Str), ("_law_sizes_here" : Str), ("_law_ways" : Str), ("_law_size" : Str), ("_law_all_of" : Str), ("_law_place" : Str), ("_law_cell" : Str)]
theorem sc_law : FnScope nL [("_law_script" : Str)] (defScope s_law) := ⟨rfl, rfl, rfl, by decide +kernel, rfl, by decide +kernel, by decide +kernel⟩
def spLaw (K : PySem.W.Frag) : Sp := fun vs H Q _ => ∃ (a : Addr) (ns : List Int), vs = [.ref a] ∧ SqL K H a (ns.map V.int) ∧ ns.length ≤ 63 ∧ ∀ H', Q (.bl true) H'
def envL (ns : List Int) : Dn.Env := [some (.d (.list (ns.map PyData.int))), some .h, none, none, none, none, none, none]
def pCells : Fn Unit := fLc [7] (iAny (fVar 0)) (asgN 7) fYes (fVar 7)
theorem dp_ints {K : PySem.W.Frag} {D : Hp} : ∀ (ns : List Int), DpAll K D (ns.map V.int) (ns.map PyData.int)
  | [] => .nil
  | n :: r => .cons (.int n) (dp_ints r)
theorem of_dp_ints {K : PySem.W.Frag} {D : Hp} : ∀ (ns : List Int) (vs : List V), DpAll K D vs (ns.map PyData.int) → vs = ns.map V.int
  | [], _, .nil => rfl
  | n :: r, _, .cons a b => by
    cases a
    rw [of_dp_ints r _ b]
    rfl
section
variable {P : Program} {w : World} {K : PySem.W.Frag} {mg : Str → Option Value} {base : Heap} {C_NotUsable : Addr}
theorem f_law (B : Bk mg) (e_NotUsable : Ex2 P w K mg base "NotUsable" C_NotUsable "word" "at") (eqt : Quiet K C_NotUsable) (c__law_choices_hold : DfnS True P w K mg base Fm 7 "_law_choices_hold" 3 (v__law_choices_hold C_NotUsable)) (c__law_counted : Dfn True P w K mg base 1 "_law_counted" 2 (v__law_counted C_NotUsable)) (c__law_ends_hold : DfnS True P w K mg base Fm 10 "_law_ends_hold" 2 (v__law_ends_hold C_NotUsable)) (c__law_places_hold : Dfn True P w K mg base 9 "_law_places_hold" 2 (v__law_places_hold C_NotUsable)) (c__law_quotients_hold : DfnS True P w K mg base Fm 6 "_law_quotients_hold" 1 (v__law_quotients_hold C_NotUsable)) (c__law_rows_fold : DfnS True P w K mg base Fm 6 "_law_rows_fold" 1 (v__law_rows_fold C_NotUsable)) (c__law_sizes : DfnS True P w K mg base Fm 2 "_law_sizes" 1 (v__law_sizes C_NotUsable)) {f : Addr} {fd : FuncData} (F : Fun K "law" "law" s_law f fd) (cells : ∀ ns : List Int, ns.length ≤ 63 → pCells (env0 nL [.list (ns.map PyData.int)]) () = .ok (.l (ns.map PyData.int)) ())
    (main : ∀ ns : List Int, ns.length ≤ 63 → ∃ g', p_law C_NotUsable (envL ns) (0, ns) = .ret (.d (.bool true)) g') : FnG True P w K mg base 11 f fd [("_law_script" : Str)] (spLaw K) := by
  refine fnG_of F sc_law (fun vs H Q E h => by obtain ⟨a, ns, rfl, _⟩ := h; rfl) fun cdv A outer s H vs Q E hG hr h => ?_
  have nd := sc_law.nd
  have hT := hG
  have rest : ∀ (i : Tw) (H0 D0 : Hp), DSs (cxD P w K mg base nL "law" s_law f cdv A outer s H E) ⟨K, Fm i, H0, D0, fun cls d _ H => E cls d H⟩ ((defBody s_law).drop 1) (p_law C_NotUsable) := fun i H0 D0 => by
    have tk : Takes (cxD P w K mg base nL "law" s_law f cdv A outer s H E) (fun cls d _ H => E cls d H) := takes_of rfl rfl rfl rfl
    have hp : PassesOwn (model P w) (cxD P w K mg base nL "law" s_law f cdv A outer s H E).A (cxD P w K mg base nL "law" s_law f cdv A outer s H E).env (cxD P w K mg base nL "law" s_law f cdv A outer s H E).xe := passes_of rfl
    have hI : Fm i = Fm i := rfl
    exact (dscons (dset 2 nd (dcallDS hI tk hG c__law_sizes (hr.mono (by omega)) (dacons (dvar 1) danil)))
  (dscons (dset 3 nd dint)
  (dscons (dfor hp rfl (diany (dvar 2)) (dgN 4 nd) (tgN 4) (dsone (dset 3 nd (dop op_mulW kMul (dvar 3) (dvar 4)))))
  (dscons (dsetlc0 5 (own := [("_law_place", 6)]) rfl nd (dirng1 rfl B.range (dacons (dvar 3) danil)) (blkOk_by (by rfl)) (fun _ _ _ _ _ => (dgN 6 nd)) (tgN 6) (towN (by decide)) (fun _ _ _ _ _ => (dcallD takes0 hG c__law_counted (hr.mono (by omega)) (dacons (dvar 2) (dacons (dvar 6) danil)))))
  (dsfrz 5 (dscons (dif_ (dtnot (dtval (dcallD tk hG c__law_places_hold (hr.mono (by omega)) (dacons (dvar 2) (dacons (dvar 5) danil))))) (dsone (dret dbl)) dsnil)
  (dscons (dif_ (dtnot (dtval (dcallDS hI tk hG c__law_choices_hold (hr.mono (by omega)) (dacons (dvar 1) (dacons (dvar 2) (dacons (dvar 5) danil)))))) (dsone (dret dbl)) dsnil)
  (dscons (dif_ (dtnot (dtval (dcallDS hI tk hG c__law_quotients_hold (hr.mono (by omega)) (dacons (dvar 1) danil)))) (dsone (dret dbl)) dsnil)
  (dsone (dret (dand (dcallDS hI tk hG c__law_rows_fold (hr.mono (by omega)) (dacons (dvar 1) danil)) (done1 (dcallDS hI tk hG c__law_ends_hold (hr.mono (by omega)) (dacons (dvar 1) (dacons (dvar 2) danil)))))))))))))))
  have restA : PSs (cxD P w K mg base nL "law" s_law f cdv A outer s H E) ((defBody s_law).drop 1) (fun Eq σ H1 => ∃ (i : Tw) (H0 D0 : Hp), tS ⟨K, Fm i, H0, D0, fun cls d _ H => E cls d H⟩ (p_law C_NotUsable) Eq σ H1) :=
    ⟨fun pins s σ H1 Eq I ⟨i, H0, D0, q⟩ => (rest i H0 D0).run pins s σ H1 Eq I q⟩
  obtain ⟨a, ns, rfl, hS, hl, q⟩ := h
  obtain ⟨D, hD⟩ : ∃ D : Hp, D = fun b => if b = a then H b else none := ⟨_, rfl⟩
  refine ⟨_, pss_cons (ps_set (i := 1) nd rfl (Or.inl rfl) (pe_disp (pps_cons pe_str (dlc0 (γ := Unit) (P := ⟨K, rs0, H, D, fun cls d _ H => E cls d H⟩) (own := [("_law_cell", 7)]) rfl nd (diany (dvar 0)) (blkOk_by (by rfl)) (fun _ _ _ _ _ => (dgN 7 nd)) (tgN 7) (towN (by decide)) (fun _ _ _ _ _ => (dvar 7))) (pps_cons pe_str pe_int pps_nil)) rfl rfl (fun z => by cases z) (by decide))) restA, ?_⟩
  have Da : D a = H a := by rw [hD]; exact if_pos rfl
  have Doff : ∀ b, b ≠ a → D b = none := fun b h => by
    rw [hD]
    exact if_neg h
  have sD : Sub D H := fun b o e => by
    by_cases h : b = a
    · rw [h, Da] at e; rw [h]; exact e
    · rw [Doff b h] at e; cases e
  have hSD : SqL K D a (ns.map V.int) := by
    rcases hS with z | z
    · left
      rcases z with z | ⟨o, z⟩
      · exact .inl (Da.trans z)
      · exact .inr ⟨o, Da.trans z⟩
    · exact .inr z
  have hdp : DpAll K D [.ref a] [.list (ns.map PyData.int)] := .cons (Dp.lst hSD (dp_ints ns)) .nil
  intro p hp
  have lgp := LG.new (o := .dK []) sD hp
  refine ⟨D, env0 nL [.list (ns.map PyData.int)], (), (rep0 sD hdp).lg lgp, ?_⟩
  have ec : fLc (List.map (fun x => x.snd) [(("_law_cell" : Str), 7)]) (iAny (fVar 0)) (asgN 7) fYes (fVar 7) (env0 nL [.list (ns.map PyData.int)]) () = .ok (.l (ns.map PyData.int)) () := cells ns hl
  rw [ec]
  intro v H1 D1 r1 g1 vr
  obtain ⟨⟨c, xs, rfl, h1, h2, h3, h4⟩, fresh⟩ := vr
  have ex := of_dp_ints ns xs h4
  subst ex
  have cp : p ≠ c := fun z => by
    have := fresh c rfl
    rw [← z, upd_same] at this
    cases this
  have Dp0 : D p = none := by
    cases e : D p with
    | none => rfl
    | some o => rw [sD p o e] at hp; cases hp
  have p1 : H1 p = some (.dK []) := g1.keep p _ (fun z => z) upd_same
  have d1 : D1 p = none := g1.dn p (by rw [upd_same]; exact fun z => nomatch z) Dp0
  refine ⟨p1, [(.inr "cells", .ref c), (.inr "turn", .int 0)], rfl, (show 2 ≤ 15 by decide), ?_⟩
  obtain ⟨H3, hH3⟩ : ∃ H3 : Hp, H3 = upd H1 p (.dK [(.inr "cells", .ref c), (.inr "turn", .int 0)]) := ⟨_, rfl⟩
  have e3p : H3 p = some (.dK [(.inr "cells", .ref c), (.inr "turn", .int 0)]) := by rw [hH3]; exact upd_same
  have e3c : H3 c = some (.lst (ns.map V.int)) := by rw [hH3, upd_ne cp.symm]; exact h1
  have s3 : Sub D1 H3 := fun b o e => by
    have z : b ≠ p := fun z => by rw [z, d1] at e; cases e
    rw [hH3, upd_ne z]
    exact r1.sub b o e
  obtain ⟨g', em⟩ := main ns hl
  show ∃ (i : Tw) (H0 D0 : Hp), tS ⟨K, Fm i, H0, D0, fun cls d _ H => E cls d H⟩ (p_law C_NotUsable) _ _ (upd H1 p (.dK [(.inr "cells", .ref c), (.inr "turn", .int 0)]))
  rw [← hH3]
  refine ⟨⟨p, c, cp⟩, H3, D1, D1, envL ns, (0, ns), ⟨.refl, s3, ?_, rfl, ?_, ?_, ?_, ?_, ?_, ⟨e3p, e3c⟩⟩, ?_⟩
  · rintro b (z | z)
    · rw [z]
      show H3 p ≠ none
      rw [e3p]; exact fun z => nomatch z
    · rw [z]
      show H3 c ≠ none
      rw [e3c]; exact fun z => nomatch z
  · intro i y e
    match i, e with
    | 0, e =>
      cases e
      exact ⟨_, rfl, Dp.lst (Sub.sl (g1.dk) hSD) (dp_ints ns)⟩
    | 1, e => cases e; exact ⟨_, rfl, rfl⟩
    | 2, e => cases e
    | 3, e => cases e
    | 4, e => cases e
    | 5, e => cases e
    | 6, e => cases e
    | 7, e => cases e
    | n + 8, e => cases e
  · intro i xs b e
    match i, e with
    | 0, e => cases e
    | 1, e => cases e
    | 2, e => cases e
    | 3, e => cases e
    | 4, e => cases e
    | 5, e => cases e
    | 6, e => cases e
    | 7, e => cases e
    | n + 8, e => cases e
  · intro i xs e
    match i, e with
    | 0, e => cases e
    | 1, e => cases e
    | 2, e => cases e
    | 3, e => cases e
    | 4, e => cases e
    | 5, e => cases e
    | 6, e => cases e
    | 7, e => cases e
    | n + 8, e => cases e
  · intro i j b b' xs ys _ e
    match i, e with
    | 0, e => cases e
    | 1, e => cases e
    | 2, e => cases e
    | 3, e => cases e
    | 4, e => cases e
    | 5, e => cases e
    | 6, e => cases e
    | 7, e => cases e
    | n + 8, e => cases e
  · rintro b (z | z)
    · rw [z]; exact d1
    · rw [z]; exact h2
  · rw [em]
    intro v H' D' _ _ _ _ vr
    have z : v = .bl true := by cases vr; rfl
    rw [z]
    exact q H'
end
end K1

set_option Elab.async false
set_option linter.all false
set_option autoImplicit false
set_option maxRecDepth 100000
set_option maxHeartbeats 1000000
namespace K1
open PySem PySem.Spec PyProof.Rows L2 Dn
theorem cells : ∀ ns : List Int, ns.length ≤ 63 → pCells (env0 nL [.list (ns.map PyData.int)]) () = .ok (.l (ns.map PyData.int)) () := fun ns h =>
  w_lc ns PyData.int PyData.int (w_anyL w_var) (by omega) fun x hx => ⟨[some (.d (.list (ns.map PyData.int))), none, none, none, none, none, none, some (.d (.int x))], rfl, w_var⟩
theorem main_ways {ns : List Int} (S : Sz ns) (a b c : Option SV) (h5 h6 h7 : Option SV) (g : SrcG) : ∃ t, loopD (asgN 4) (sAsg 3 (fOp oMul (fVar 3) (fVar 4))) (ns.map PyData.int) [a, b, c, some (.d (.int 1)), none, h5, h6, h7] g = .next [a, b, c, some (.d (.int (prodZ ns))), t, h5, h6, h7] g := by
  have key := loop_invM (γ := SrcG) (asg := asgN 4) (body := sAsg 3 (fOp oMul (fVar 3) (fVar 4))) PyData.int (fun rest ρ g1 => ∃ (m : Int) (t : Option SV), ρ = [a, b, c, some (.d (.int m)), t, h5, h6, h7] ∧ 1 ≤ m ∧ m * prodZ rest = prodZ ns ∧ (∀ s ∈ rest, 1 ≤ s ∧ s ≤ 4) ∧ g1 = g) ?_ ns _ g ⟨1, none, rfl, by decide, by rw [Int.one_mul], S.all, rfl⟩
  · obtain ⟨ρ', g', e, m, t, rfl, h1, h2, _, rfl⟩ := key
    have h2 : m * 1 = prodZ ns := h2
    rw [Int.mul_one] at h2
    subst h2
    exact ⟨t, e⟩
  · rintro s rest ρ g1 ⟨m, t, rfl, h1, h2, h3, rfl⟩
    obtain ⟨a1, a2⟩ := h3 s List.mem_cons_self
    have p1 := prod_pos h3
    have mle : m ≤ 64 := le_of_mul (by rw [h2]; exact S.prod) h1 p1
    refine ⟨_, _, g1, rfl, u_set (w_op w_var w_var (o_mulS (by omega) (by omega))), m * s, some (.d (.int s)), rfl, ?_, ?_, fun x hx => h3 x (List.mem_cons_of_mem _ hx), rfl⟩
    · have := Int.mul_le_mul h1 a1 (by decide) (by omega)
      omega
    · rw [Int.mul_assoc]; exact h2
/-- the law's own equation -/
theorem main (C : Addr) : ∀ cs : List Int, cs.length ≤ 63 → ∃ g', p_law C (envL cs) (0, cs) = .ret (.d (.bool true)) g' := by
  intro cs hl
  obtain ⟨ns, g1, e1, S, hn, c1⟩ := e_sizes (C := C) (g := (0, cs)) hl
  obtain ⟨n, hp, h1, h64⟩ := prod64 S
  obtain ⟨t4, eways⟩ := main_ways S (some (.d (.list (cs.map PyData.int)))) (some .h) (some (.d (tI ns))) none none none g1
  obtain ⟨g2, e2, c2⟩ := e_choices_hold (C := C) S hn hp h1 h64 c1
  obtain ⟨g3, e3, c3⟩ := e_quotients_hold (C := C) c2
  obtain ⟨g4, e4, c4⟩ := e_rows_fold (C := C) c3
  obtain ⟨g5, e5, c5⟩ := e_ends_hold (C := C) S hn c4
  have ep := e_places_hold (C := C) S hn hp h64
  refine ⟨g5, ?_⟩
  refine Eq.trans (u_seq (u_set (w_callS (w_cons (w_varH rfl) w_nil) rfl rfl e1))) ?_
  refine Eq.trans (u_seq (u_set w_c)) ?_
  refine Eq.trans (u_seq (Eq.trans (u_for (w_any w_var)) eways)) ?_
  have eall : (fLc [6] (iRng1F (aCons (fVar 3) aNil)) (asgN 6) fYes (fCall 2 (v__law_counted C) (aCons (fVar 2) (aCons (fVar 6) aNil))) : Fn SrcG) [some (.d (.list (cs.map PyData.int))), some .h, some (.d (tI ns)), some (.d (.int (prodZ ns))), t4, none, none, none] g1 = .ok (.l (allOf ns n)) g1 := by
    refine w_lc (List.range n) (fun k : Nat => .int k) (fun k : Nat => tI (digits ns k)) (w_rng1 (n := n) (w_cons (w_var (x := .int (n : Int)) (by rw [hp]; rfl)) w_nil) (by omega)) (by rw [List.length_range]; omega) fun k hk => ⟨[some (.d (.list (cs.map PyData.int))), some .h, some (.d (tI ns)), some (.d (.int (prodZ ns))), t4, none, some (.d (.int (k : Nat))), none], rfl, ?_⟩
    exact w_call (w_cons w_var (w_cons w_var w_nil)) rfl rfl (e_counted S k)
  refine Eq.trans (u_seq (u_set eall)) ?_
  refine Eq.trans (u_seq (Eq.trans (u_ifF (w_not (w_call (w_cons w_var (w_cons (w_var (x := .list (allOf ns n)) rfl) w_nil)) rfl rfl ep))) u_nil)) ?_
  refine Eq.trans (u_seq (Eq.trans (u_ifF (w_not (w_callS (w_cons (w_varH rfl) (w_cons w_var (w_cons (w_var (x := .list (allOf ns n)) rfl) w_nil))) rfl rfl e2))) u_nil)) ?_
  refine Eq.trans (u_seq (Eq.trans (u_ifF (w_not (w_callS (w_cons (w_varH rfl) w_nil) rfl rfl e3))) u_nil)) ?_
  exact u_ret (w_and2 (w_callS (w_cons (w_varH rfl) w_nil) rfl rfl e4) (w_callS (w_cons (w_varH rfl) (w_cons w_var w_nil)) rfl rfl e5))
end K1

set_option Elab.async false
set_option linter.all false
set_option autoImplicit false
set_option maxRecDepth 100000
set_option maxHeartbeats 4000000
namespace K1
open PySem PySem.Spec PyProof.Rows L2 Dn
/-! the end: what the top has written -/
theorem dfn_of {gd : Prop} {P : Program} {w : World} {K : PySem.W.Frag} {mg : Str → Option Value} {base : Heap} {k n : Nat} {x : Str} {st : Stmt} {ps : List Str} {fn : List PyData → Out Unit} (h : Here K mg x st ps) (g : ∀ {f : Addr} {fd : FuncData}, Fun K x x st f fd → FnG gd P w K mg base k f fd ps (spP K n fn)) : Dfn gd P w K mg base k x n fn :=
  let ⟨f, fd, h1, h2, h3⟩ := h.ex
  ⟨f, fd, ps, h1, h2.kp, h3, g h2⟩
theorem dfnS_of {gd : Prop} {γ ι : Type} {Fm : ι → Rs γ} {P : Program} {w : World} {K : PySem.W.Frag} {mg : Str → Option Value} {base : Heap} {k n : Nat} {x : Str} {st : Stmt} {ps : List Str} {fn : List SV → γ → Out γ} (h : Here K mg x st ps) (g : ∀ {f : Addr} {fd : FuncData}, Fun K x x st f fd → FnG gd P w K mg base k f fd ps (spS Fm K n fn)) : DfnS gd P w K mg base Fm k x n fn :=
  let ⟨f, fd, h1, h2, h3⟩ := h.ex
  ⟨f, fd, ps, h1, h2.kp, h3, g h2⟩
theorem dfnK_of {gd : Prop} {P : Program} {w : World} {K : PySem.W.Frag} {mg : Str → Option Value} {base : Heap} {k n : Nat} {x : Str} {st : Stmt} {ps ks : List Str} {fn : List PyData → Out Unit} (h : Here K mg x st ps) (hk : ∀ {f : Addr} {fd : FuncData}, Fun K x x st f fd → KRev K fd ps ks) (g : ∀ {f : Addr} {fd : FuncData}, Fun K x x st f fd → FnG gd P w K mg base k f fd ps (spP K n fn)) : DfnK gd P w K mg base k x ks n fn :=
  let ⟨f, fd, h1, h2, h3⟩ := h.ex
  ⟨f, fd, ps, h1, h2.kp, hk h2, g h2⟩
theorem gdfn_of {P : Program} {w : World} {K : PySem.W.Frag} {mg : Str → Option Value} {base : Heap} {k n : Nat} {x : Str} {st : Stmt} {ps : List Str} {fn : List PyData → OutI Unit} (h : Here K mg x st ps) (g : ∀ {f : Addr} {fd : FuncData}, Fun K x x st f fd → GFn P w K mg base k f fd ps (spG K n fn)) : GDfn P w K mg base k x n fn :=
  let ⟨f, fd, h1, h2, h3⟩ := h.ex
  ⟨f, fd, ps, h1, h2.kp, h3, g h2⟩
theorem gdfnK_of {P : Program} {w : World} {K : PySem.W.Frag} {mg : Str → Option Value} {base : Heap} {k n : Nat} {x : Str} {st : Stmt} {ps ks : List Str} {fn : List PyData → OutI Unit} (h : Here K mg x st ps) (hk : ∀ {f : Addr} {fd : FuncData}, Fun K x x st f fd → KRev K fd ps ks) (g : ∀ {f : Addr} {fd : FuncData}, Fun K x x st f fd → GFn P w K mg base k f fd ps (spG K n fn)) : GDfnK P w K mg base k x ks n fn :=
  let ⟨f, fd, h1, h2, h3⟩ := h.ex
  ⟨f, fd, ps, h1, h2.kp, hk h2, g h2⟩
theorem here_mk {K : PySem.W.Frag} {mg : Str → Option Value} {h : Heap} {x : Str} {st : Stmt} {ps : List Str} {f : Addr} {oc : Value} {od an : Option Addr} {osl : Array (Option Value)} {kV doc pm cdv ct : Value} (X : K.In h) (G : h.Ns mainGlobals mg) (a : PySem.W.nsIn K mainGlobals x = some (some (.ref f)))
    (l : K.lookup f = some ⟨oc, od, .func (PySem.W.fnOf x x (defArgs st) (defBody st) (defScope st) .none kV doc pm an cdv ct), osl⟩) (c : PySem.W.codeIn K cdv x = true) (k : PySem.W.keepIn K (.ref f) = true)
    (hb : ∀ (kV doc pm : Value) (an : Option Addr) (cdv ct : Value) (us : List Value), us.length = ps.length → bindArgs (PySem.W.fnOf x x (defArgs st) (defBody st) (defScope st) .none kV doc pm an cdv ct) ⟨us, []⟩ = pure (ps.zip us)) : Here K mg x st ps :=
  ⟨f, _, PySem.W.mg_of X G a, fun_mk l c k, (fun_mk l c k).binds hb⟩

structure Txt (K : PySem.W.Frag) (mg : Str → Option Value) : Prop where
  h_is_integer : Here K mg "is_integer" s_is_integer [("thing" : Str)]
  h_is_number : Here K mg "is_number" s_is_number [("thing" : Str)]
  h_is_many : Here K mg "is_many" s_is_many [("thing" : Str)]
  h_is_sizes : Here K mg "is_sizes" s_is_sizes [("thing" : Str)]
  h_is_index : Here K mg "is_index" s_is_index [("many" : Str), ("thing" : Str)]
  h_is_ascending : Here K mg "is_ascending" s_is_ascending [("things" : Str)]
  h_right_setting : Here K mg "right_setting" s_right_setting [("sizes" : Str), ("thing" : Str)]
  h_right_lot : Here K mg "right_lot" s_right_lot [("many" : Str), ("thing" : Str)]
  h_need : Here K mg "need" s_need [("holds" : Str), ("word" : Str)]
  h_need_sizes : Here K mg "need_sizes" s_need_sizes [("sizes" : Str)]
  h_need_lot : Here K mg "need_lot" s_need_lot [("many" : Str), ("lot" : Str)]
  h_need_setting : Here K mg "need_setting" s_need_setting [("sizes" : Str), ("setting" : Str)]
  h_settings_many : Here K mg "settings_many" s_settings_many [("sizes" : Str)]
  h_setting_from : Here K mg "setting_from" s_setting_from [("sizes" : Str), ("place" : Str)]
  h_settings_of : Here K mg "settings_of" s_settings_of [("sizes" : Str)]
  h_place_in : Here K mg "place_in" s_place_in [("sizes" : Str), ("setting" : Str)]
  h_place_of : Here K mg "place_of" s_place_of [("sizes" : Str), ("setting" : Str)]
  h_setting_at : Here K mg "setting_at" s_setting_at [("sizes" : Str), ("place" : Str)]
  h_values_on : Here K mg "values_on" s_values_on [("values" : Str), ("lot" : Str)]
  h_choices_on : Here K mg "choices_on" s_choices_on [("sizes" : Str), ("setting" : Str), ("lot" : Str)]
  h_put_on : Here K mg "put_on" s_put_on [("sizes" : Str), ("setting" : Str), ("lot" : Str), ("choices" : Str)]
  h_is_quotient : Here K mg "is_quotient" s_is_quotient [("thing" : Str)]
  h_reduced : Here K mg "reduced" s_reduced [("top" : Str), ("bottom" : Str)]
  h_quotient_of : Here K mg "quotient_of" s_quotient_of [("top" : Str), ("bottom" : Str)]
  h_need_quotients : Here K mg "need_quotients" s_need_quotients [("one" : Str), ("other" : Str)]
  h_plus : Here K mg "plus" s_plus [("one" : Str), ("other" : Str)]
  h_times : Here K mg "times" s_times [("one" : Str), ("other" : Str)]
  h__law_draw : Here K mg "_law_draw" s__law_draw [("_law_source" : Str), ("_law_top" : Str)]
  h__law_number : Here K mg "_law_number" s__law_number [("_law_source" : Str), ("_law_laps" : Str)]
  h__law_sizes : Here K mg "_law_sizes" s__law_sizes [("_law_source" : Str)]
  h__law_counted : Here K mg "_law_counted" s__law_counted [("_law_sizes_here" : Str), ("_law_place" : Str)]
  h__law_lots : Here K mg "_law_lots" s__law_lots [("_law_n" : Str)]
  h__law_places_hold : Here K mg "_law_places_hold" s__law_places_hold [("_law_sizes_here" : Str), ("_law_all_of" : Str)]
  h__law_choices_hold : Here K mg "_law_choices_hold" s__law_choices_hold [("_law_source" : Str), ("_law_sizes_here" : Str), ("_law_all_of" : Str)]
  h__law_common : Here K mg "_law_common" s__law_common [("_law_one_number" : Str), ("_law_other_number" : Str)]
  h__law_is_worth : Here K mg "_law_is_worth" s__law_is_worth [("_law_told" : Str), ("_law_high" : Str), ("_law_low" : Str)]
  h__law_quotient : Here K mg "_law_quotient" s__law_quotient [("_law_source" : Str)]
  h__law_quotients_hold : Here K mg "_law_quotients_hold" s__law_quotients_hold [("_law_source" : Str)]
  h__law_rows_fold : Here K mg "_law_rows_fold" s__law_rows_fold [("_law_source" : Str)]
  h__law_refused : Here K mg "_law_refused" s__law_refused [("_law_number_here" : Str), ("_law_sizes_here" : Str), ("_law_worth" : Str), ("_law_lot" : Str)]
  h__law_ends_hold : Here K mg "_law_ends_hold" s__law_ends_hold [("_law_source" : Str), ("_law_sizes_here" : Str)]
  h_law : Here K mg "law" s_law [("_law_script" : Str)]
section
variable {P : Program} {w : World} {K : PySem.W.Frag} {mg : Str → Option Value} {base : Heap} {C_NotUsable : Addr}
theorem kr_quotient_of {f : Addr} {fd : FuncData} (F : Fun K "quotient_of" "quotient_of" s_quotient_of f fd) : KRev K fd [("top" : Str), ("bottom" : Str)] [("bottom" : Str), ("top" : Str)] := KRev.of F fun _ _ _ _ _ _ ws hl => match ws, hl with | [_, _], _ => rfl
theorem kr_settings_of {f : Addr} {fd : FuncData} (F : Fun K "settings_of" "settings_of" s_settings_of f fd) : KRev K fd [("sizes" : Str)] [("sizes" : Str)] := KRev.of F fun _ _ _ _ _ _ ws hl => match ws, hl with | [_], _ => rfl
theorem chain (T : Txt K mg) (B : Bk mg) (e_NotUsable : Ex2 P w K mg base "NotUsable" C_NotUsable "word" "at") (eqt : Quiet K C_NotUsable) (cells : ∀ ns : List Int, ns.length ≤ 63 → pCells (env0 nL [.list (ns.map PyData.int)]) () = .ok (.l (ns.map PyData.int)) ()) (main : ∀ ns : List Int, ns.length ≤ 63 → ∃ g', p_law C_NotUsable (envL ns) (0, ns) = .ret (.d (.bool true)) g') :
    ∀ {f : Addr} {fd : FuncData}, Fun K "law" "law" s_law f fd → FnG True P w K mg base 11 f fd [("_law_script" : Str)] (spLaw K) := by
  have z_is_integer : Dfn False P w K mg base 1 "is_integer" 1 (v_is_integer C_NotUsable) := dfn_of T.h_is_integer fun F => f_is_integer B e_NotUsable F
  have c_is_integer : Dfn True P w K mg base 1 "is_integer" 1 (v_is_integer C_NotUsable) := dfn_of T.h_is_integer fun F => f_is_integer B e_NotUsable F
  have c_is_number : Dfn True P w K mg base 2 "is_number" 1 (v_is_number C_NotUsable) := dfn_of T.h_is_number fun F => f_is_number B e_NotUsable c_is_integer F
  have z_is_many : Dfn False P w K mg base 2 "is_many" 1 (v_is_many C_NotUsable) := dfn_of T.h_is_many fun F => f_is_many B e_NotUsable z_is_integer F
  have c_is_many : Dfn True P w K mg base 2 "is_many" 1 (v_is_many C_NotUsable) := dfn_of T.h_is_many fun F => f_is_many B e_NotUsable c_is_integer F
  have z_is_sizes : Dfn False P w K mg base 3 "is_sizes" 1 (v_is_sizes C_NotUsable) := dfn_of T.h_is_sizes fun F => f_is_sizes B e_NotUsable z_is_many F
  have c_is_sizes : Dfn True P w K mg base 3 "is_sizes" 1 (v_is_sizes C_NotUsable) := dfn_of T.h_is_sizes fun F => f_is_sizes B e_NotUsable c_is_many F
  have c_is_index : Dfn True P w K mg base 3 "is_index" 2 (v_is_index C_NotUsable) := dfn_of T.h_is_index fun F => f_is_index B e_NotUsable c_is_number F
  have c_is_ascending : Dfn True P w K mg base 1 "is_ascending" 1 (v_is_ascending C_NotUsable) := dfn_of T.h_is_ascending fun F => f_is_ascending B e_NotUsable F
  have c_right_setting : Dfn True P w K mg base 4 "right_setting" 2 (v_right_setting C_NotUsable) := dfn_of T.h_right_setting fun F => f_right_setting B e_NotUsable c_is_index F
  have c_right_lot : Dfn True P w K mg base 4 "right_lot" 2 (v_right_lot C_NotUsable) := dfn_of T.h_right_lot fun F => f_right_lot B e_NotUsable c_is_ascending c_is_index F
  have z_need : Dfn False P w K mg base 3 "need" 2 (v_need C_NotUsable) := dfn_of T.h_need fun F => f_need B e_NotUsable F
  have c_need : Dfn True P w K mg base 3 "need" 2 (v_need C_NotUsable) := dfn_of T.h_need fun F => f_need B e_NotUsable F
  have z_need_sizes : Dfn False P w K mg base 4 "need_sizes" 1 (v_need_sizes C_NotUsable) := dfn_of T.h_need_sizes fun F => f_need_sizes B e_NotUsable z_is_sizes z_need F
  have c_need_sizes : Dfn True P w K mg base 4 "need_sizes" 1 (v_need_sizes C_NotUsable) := dfn_of T.h_need_sizes fun F => f_need_sizes B e_NotUsable c_is_sizes c_need F
  have c_need_lot : Dfn True P w K mg base 5 "need_lot" 2 (v_need_lot C_NotUsable) := dfn_of T.h_need_lot fun F => f_need_lot B e_NotUsable c_need c_right_lot F
  have c_need_setting : Dfn True P w K mg base 5 "need_setting" 2 (v_need_setting C_NotUsable) := dfn_of T.h_need_setting fun F => f_need_setting B e_NotUsable c_need c_right_setting F
  have z_settings_many : Dfn False P w K mg base 1 "settings_many" 1 (v_settings_many C_NotUsable) := dfn_of T.h_settings_many fun F => f_settings_many B e_NotUsable F
  have c_settings_many : Dfn True P w K mg base 1 "settings_many" 1 (v_settings_many C_NotUsable) := dfn_of T.h_settings_many fun F => f_settings_many B e_NotUsable F
  have z_setting_from : Dfn False P w K mg base 1 "setting_from" 2 (v_setting_from C_NotUsable) := dfn_of T.h_setting_from fun F => f_setting_from B e_NotUsable F
  have c_setting_from : Dfn True P w K mg base 1 "setting_from" 2 (v_setting_from C_NotUsable) := dfn_of T.h_setting_from fun F => f_setting_from B e_NotUsable F
  have g_settings_of : GDfn P w K mg base 5 "settings_of" 1 (v_settings_of C_NotUsable) := gdfn_of T.h_settings_of fun F => f_settings_of B e_NotUsable z_need_sizes z_setting_from z_settings_many F
  have gk_settings_of : GDfnK P w K mg base 5 "settings_of" [("sizes" : Str)] 1 (v_settings_of C_NotUsable) := gdfnK_of T.h_settings_of kr_settings_of fun F => f_settings_of B e_NotUsable z_need_sizes z_setting_from z_settings_many F
  have c_place_in : Dfn True P w K mg base 1 "place_in" 2 (v_place_in C_NotUsable) := dfn_of T.h_place_in fun F => f_place_in B e_NotUsable F
  have c_place_of : Dfn True P w K mg base 6 "place_of" 2 (v_place_of C_NotUsable) := dfn_of T.h_place_of fun F => f_place_of B e_NotUsable c_need_setting c_need_sizes c_place_in F
  have c_setting_at : Dfn True P w K mg base 5 "setting_at" 2 (v_setting_at C_NotUsable) := dfn_of T.h_setting_at fun F => f_setting_at B e_NotUsable c_is_index c_need c_need_sizes c_setting_from c_settings_many F
  have c_values_on : Dfn True P w K mg base 1 "values_on" 2 (v_values_on C_NotUsable) := dfn_of T.h_values_on fun F => f_values_on B e_NotUsable F
  have c_choices_on : Dfn True P w K mg base 6 "choices_on" 3 (v_choices_on C_NotUsable) := dfn_of T.h_choices_on fun F => f_choices_on B e_NotUsable c_need_lot c_need_setting c_need_sizes c_values_on F
  have c_put_on : Dfn True P w K mg base 6 "put_on" 4 (v_put_on C_NotUsable) := dfn_of T.h_put_on fun F => f_put_on B e_NotUsable c_need c_need_lot c_need_setting c_need_sizes c_right_setting c_values_on F
  have c_is_quotient : Dfn True P w K mg base 3 "is_quotient" 1 (v_is_quotient C_NotUsable) := dfn_of T.h_is_quotient fun F => f_is_quotient B e_NotUsable c_is_integer c_is_many F
  have c_reduced : Dfn True P w K mg base 1 "reduced" 2 (v_reduced C_NotUsable) := dfn_of T.h_reduced fun F => f_reduced B e_NotUsable F
  have c_quotient_of : Dfn True P w K mg base 4 "quotient_of" 2 (v_quotient_of C_NotUsable) := dfn_of T.h_quotient_of fun F => f_quotient_of B e_NotUsable c_is_integer c_need c_reduced F
  have k_quotient_of : DfnK True P w K mg base 4 "quotient_of" [("bottom" : Str), ("top" : Str)] 2 (v_quotient_of C_NotUsable) := dfnK_of T.h_quotient_of kr_quotient_of fun F => f_quotient_of B e_NotUsable c_is_integer c_need c_reduced F
  have c_need_quotients : Dfn True P w K mg base 4 "need_quotients" 2 (v_need_quotients C_NotUsable) := dfn_of T.h_need_quotients fun F => f_need_quotients B e_NotUsable c_is_quotient c_need F
  have c_plus : Dfn True P w K mg base 5 "plus" 2 (v_plus C_NotUsable) := dfn_of T.h_plus fun F => f_plus B e_NotUsable c_need_quotients c_reduced F
  have c_times : Dfn True P w K mg base 5 "times" 2 (v_times C_NotUsable) := dfn_of T.h_times fun F => f_times B e_NotUsable c_need_quotients c_reduced F
  have c__law_draw : DfnS True P w K mg base Fm 1 "_law_draw" 2 (v__law_draw C_NotUsable) := dfnS_of T.h__law_draw fun F => f__law_draw B F
  have c__law_number : DfnS True P w K mg base Fm 2 "_law_number" 2 (v__law_number C_NotUsable) := dfnS_of T.h__law_number fun F => f__law_number B e_NotUsable c__law_draw F
  have c__law_sizes : DfnS True P w K mg base Fm 2 "_law_sizes" 1 (v__law_sizes C_NotUsable) := dfnS_of T.h__law_sizes fun F => f__law_sizes B e_NotUsable c__law_draw F
  have c__law_counted : Dfn True P w K mg base 1 "_law_counted" 2 (v__law_counted C_NotUsable) := dfn_of T.h__law_counted fun F => f__law_counted B e_NotUsable F
  have c__law_lots : Dfn True P w K mg base 1 "_law_lots" 1 (v__law_lots C_NotUsable) := dfn_of T.h__law_lots fun F => f__law_lots B e_NotUsable F
  have c__law_places_hold : Dfn True P w K mg base 9 "_law_places_hold" 2 (v__law_places_hold C_NotUsable) := dfn_of T.h__law_places_hold fun F => f__law_places_hold B e_NotUsable eqt c_place_of c_setting_at g_settings_of gk_settings_of F
  have c__law_choices_hold : DfnS True P w K mg base Fm 7 "_law_choices_hold" 3 (v__law_choices_hold C_NotUsable) := dfnS_of T.h__law_choices_hold fun F => f__law_choices_hold B e_NotUsable c__law_draw c__law_lots c_choices_on c_put_on F
  have c__law_common : Dfn True P w K mg base 1 "_law_common" 2 (v__law_common C_NotUsable) := dfn_of T.h__law_common fun F => f__law_common B e_NotUsable F
  have c__law_is_worth : Dfn True P w K mg base 2 "_law_is_worth" 3 (v__law_is_worth C_NotUsable) := dfn_of T.h__law_is_worth fun F => f__law_is_worth B e_NotUsable c__law_common F
  have c__law_quotient : DfnS True P w K mg base Fm 3 "_law_quotient" 1 (v__law_quotient C_NotUsable) := dfnS_of T.h__law_quotient fun F => f__law_quotient B e_NotUsable c__law_draw c__law_number F
  have c__law_quotients_hold : DfnS True P w K mg base Fm 6 "_law_quotients_hold" 1 (v__law_quotients_hold C_NotUsable) := dfnS_of T.h__law_quotients_hold fun F => f__law_quotients_hold B e_NotUsable c__law_is_worth c__law_number c__law_quotient c_is_quotient c_plus c_quotient_of c_times k_quotient_of F
  have c__law_rows_fold : DfnS True P w K mg base Fm 6 "_law_rows_fold" 1 (v__law_rows_fold C_NotUsable) := dfnS_of T.h__law_rows_fold fun F => f__law_rows_fold B e_NotUsable c__law_draw c_plus c_quotient_of c_times F
  have c__law_refused : Dfn True P w K mg base 9 "_law_refused" 4 (v__law_refused C_NotUsable) := dfn_of T.h__law_refused fun F => f__law_refused B e_NotUsable eqt c_choices_on c_place_of c_plus c_put_on c_quotient_of c_setting_at c_times g_settings_of F
  have c__law_ends_hold : DfnS True P w K mg base Fm 10 "_law_ends_hold" 2 (v__law_ends_hold C_NotUsable) := dfnS_of T.h__law_ends_hold fun F => f__law_ends_hold B e_NotUsable c__law_draw c__law_refused F
  intro f fd F
  exact f_law B e_NotUsable eqt c__law_choices_hold c__law_counted c__law_ends_hold c__law_places_hold c__law_quotients_hold c__law_rows_fold c__law_sizes F cells main
end
/-! the class -/
abbrev s_init : Stmt := inClass (top 4) 0
theorem sc_init : FnScope [("self" : Str), ("word" : Str), ("at" : Str)] [("self" : Str), ("word" : Str), ("at" : Str)] (defScope s_init) := ⟨rfl, rfl, rfl, by decide +kernel, rfl, by decide +kernel, by decide +kernel⟩

theorem ex2_mk {K : PySem.W.Frag} {mg : Str → Option Value} {h : Heap} {C fI : Addr} {nm q : Str} {N : Addr} {bs bm : List Value} {sn : List Str} {sub : List Value} {ab : Bool} {col : Option Bool} {dd : Option Addr} {m0 m1 m2 m3 m5 : Option Value}
    {oc : Value} {od an : Option Addr} {osl : Array (Option Value)} {kV doc pm cdv ct : Value} (X : K.In h) (G : h.Ns mainGlobals mg) (aC : PySem.W.nsIn K mainGlobals "NotUsable" = some (some (.ref C)))
    (xL : K.lookup C = some (excClassObj nm q C N bs bm true sn sub ab col dd m0 m1 m2 m3 m5 "ValueError.__new__")) (sa : PySem.W.findIn K (.ref C) "__setattr__" = some (some (.builtin "object.__setattr__")))
    (ga : PySem.W.findIn K (.ref C) "__getattribute__" = some (some (.builtin "BaseException.__getattribute__"))) (gg : PySem.W.findIn K (.ref C) "__getattr__" = some none) (n1 : PySem.W.findIn K (.ref C) "word" = some none) (n2 : PySem.W.findIn K (.ref C) "at" = some none)
    (a1 : PySem.W.findIn K (.ref C) "__init__" = some (some (.ref fI))) (t1 : PySem.W.typeIn K (.ref fI) = some (.type "function")) (l1 : K.lookup fI = some ⟨oc, od, .func (PySem.W.fnOf "__init__" "NotUsable.__init__" (defArgs s_init) (defBody s_init) (defScope s_init) .none kV doc pm an cdv ct), osl⟩)
    (c1 : PySem.W.codeIn K cdv "NotUsable.__init__" = true) (k1 : PySem.W.keepIn K (.ref fI) = true) (kC : PySem.W.keepIn K (.ref C) = true) (eC : PySem.W.subIn K (.ref C) (.type "BaseException") = some true) (tC : PySem.W.typeIn K (.ref C) = some (.type "type")) (hC : PySem.W.hasDictIn K C = true)
    (sC : PySem.W.subIn K (.ref C) (.ref C) = some true) (vE : PySem.HandSPX.refsVE bm = true) (P : Program) (w : World) (base : Heap) : Ex2 P w K mg base "NotUsable" C "word" "at" := by
  have oex : OexC K C := ⟨⟨nm, q, N, bs, bm, sn, sub, ab, col, dd, m0, m1, m2, m3, m5, xL, vE⟩, sa, eC, tC, kC⟩
  have F := fun_mk (st := s_init) l1 c1 k1
  refine ⟨PySem.W.mg_of X G aC, oex, ⟨ga, gg, eC, hC⟩, n1, n2, PySem.W.exm_ref eC hC tC sC, fI, _, [("self" : Str), ("word" : Str), ("at" : Str)], a1, t1, ?_, F.binds fun _ _ _ _ _ _ us hl => match us, hl with | [_, _, _], _ => rfl⟩
  refine F.ok sc_init (fun vs H Q E h => ?_) fun cdv A outer s H vs Q E hr h => ⟨_, pss_cons (ps_ost (pv 0) (pv 1)) (pss_one (ps_ost (pv 0) (pv 2))), init2_reads rfl h⟩
  obtain ⟨a, u, v, rfl, _⟩ := h
  rfl
theorem all_mk {l : PySem.W.OpenLaw} {w : World} {K : PySem.W.Frag} {mg : Str → Option Value} {h : Heap} {fa : Addr} (X : K.In h) (G : h.Ns mainGlobals mg) (hfa : mg "law" = some (.ref fa))
    {f0 : Addr} {oc0 kV0 dc0 pm0 cd0 ct0 : Value} {od0 an0 : Option Addr} {sl0 : Array (Option Value)}
    (a0 : PySem.W.nsIn K mainGlobals "is_integer" = some (some (.ref f0))) (l0 : K.lookup f0 = some ⟨oc0, od0, .func (PySem.W.fnOf "is_integer" "is_integer" (defArgs s_is_integer) (defBody s_is_integer) (defScope s_is_integer) .none kV0 dc0 pm0 an0 cd0 ct0), sl0⟩) (c0 : PySem.W.codeIn K cd0 "is_integer" = true) (k0 : PySem.W.keepIn K (.ref f0) = true)
    {f1 : Addr} {oc1 kV1 dc1 pm1 cd1 ct1 : Value} {od1 an1 : Option Addr} {sl1 : Array (Option Value)}
    (a1 : PySem.W.nsIn K mainGlobals "is_number" = some (some (.ref f1))) (l1 : K.lookup f1 = some ⟨oc1, od1, .func (PySem.W.fnOf "is_number" "is_number" (defArgs s_is_number) (defBody s_is_number) (defScope s_is_number) .none kV1 dc1 pm1 an1 cd1 ct1), sl1⟩) (c1 : PySem.W.codeIn K cd1 "is_number" = true) (k1 : PySem.W.keepIn K (.ref f1) = true)
    {f2 : Addr} {oc2 kV2 dc2 pm2 cd2 ct2 : Value} {od2 an2 : Option Addr} {sl2 : Array (Option Value)}
    (a2 : PySem.W.nsIn K mainGlobals "is_many" = some (some (.ref f2))) (l2 : K.lookup f2 = some ⟨oc2, od2, .func (PySem.W.fnOf "is_many" "is_many" (defArgs s_is_many) (defBody s_is_many) (defScope s_is_many) .none kV2 dc2 pm2 an2 cd2 ct2), sl2⟩) (c2 : PySem.W.codeIn K cd2 "is_many" = true) (k2 : PySem.W.keepIn K (.ref f2) = true)
    {f3 : Addr} {oc3 kV3 dc3 pm3 cd3 ct3 : Value} {od3 an3 : Option Addr} {sl3 : Array (Option Value)}
    (a3 : PySem.W.nsIn K mainGlobals "is_sizes" = some (some (.ref f3))) (l3 : K.lookup f3 = some ⟨oc3, od3, .func (PySem.W.fnOf "is_sizes" "is_sizes" (defArgs s_is_sizes) (defBody s_is_sizes) (defScope s_is_sizes) .none kV3 dc3 pm3 an3 cd3 ct3), sl3⟩) (c3 : PySem.W.codeIn K cd3 "is_sizes" = true) (k3 : PySem.W.keepIn K (.ref f3) = true)
    {f4 : Addr} {oc4 kV4 dc4 pm4 cd4 ct4 : Value} {od4 an4 : Option Addr} {sl4 : Array (Option Value)}
    (a4 : PySem.W.nsIn K mainGlobals "is_index" = some (some (.ref f4))) (l4 : K.lookup f4 = some ⟨oc4, od4, .func (PySem.W.fnOf "is_index" "is_index" (defArgs s_is_index) (defBody s_is_index) (defScope s_is_index) .none kV4 dc4 pm4 an4 cd4 ct4), sl4⟩) (c4 : PySem.W.codeIn K cd4 "is_index" = true) (k4 : PySem.W.keepIn K (.ref f4) = true)
    {f5 : Addr} {oc5 kV5 dc5 pm5 cd5 ct5 : Value} {od5 an5 : Option Addr} {sl5 : Array (Option Value)}
    (a5 : PySem.W.nsIn K mainGlobals "is_ascending" = some (some (.ref f5))) (l5 : K.lookup f5 = some ⟨oc5, od5, .func (PySem.W.fnOf "is_ascending" "is_ascending" (defArgs s_is_ascending) (defBody s_is_ascending) (defScope s_is_ascending) .none kV5 dc5 pm5 an5 cd5 ct5), sl5⟩) (c5 : PySem.W.codeIn K cd5 "is_ascending" = true) (k5 : PySem.W.keepIn K (.ref f5) = true)
    {f6 : Addr} {oc6 kV6 dc6 pm6 cd6 ct6 : Value} {od6 an6 : Option Addr} {sl6 : Array (Option Value)}
    (a6 : PySem.W.nsIn K mainGlobals "right_setting" = some (some (.ref f6))) (l6 : K.lookup f6 = some ⟨oc6, od6, .func (PySem.W.fnOf "right_setting" "right_setting" (defArgs s_right_setting) (defBody s_right_setting) (defScope s_right_setting) .none kV6 dc6 pm6 an6 cd6 ct6), sl6⟩) (c6 : PySem.W.codeIn K cd6 "right_setting" = true) (k6 : PySem.W.keepIn K (.ref f6) = true)
    {f7 : Addr} {oc7 kV7 dc7 pm7 cd7 ct7 : Value} {od7 an7 : Option Addr} {sl7 : Array (Option Value)}
    (a7 : PySem.W.nsIn K mainGlobals "right_lot" = some (some (.ref f7))) (l7 : K.lookup f7 = some ⟨oc7, od7, .func (PySem.W.fnOf "right_lot" "right_lot" (defArgs s_right_lot) (defBody s_right_lot) (defScope s_right_lot) .none kV7 dc7 pm7 an7 cd7 ct7), sl7⟩) (c7 : PySem.W.codeIn K cd7 "right_lot" = true) (k7 : PySem.W.keepIn K (.ref f7) = true)
    {f8 : Addr} {oc8 kV8 dc8 pm8 cd8 ct8 : Value} {od8 an8 : Option Addr} {sl8 : Array (Option Value)}
    (a8 : PySem.W.nsIn K mainGlobals "need" = some (some (.ref f8))) (l8 : K.lookup f8 = some ⟨oc8, od8, .func (PySem.W.fnOf "need" "need" (defArgs s_need) (defBody s_need) (defScope s_need) .none kV8 dc8 pm8 an8 cd8 ct8), sl8⟩) (c8 : PySem.W.codeIn K cd8 "need" = true) (k8 : PySem.W.keepIn K (.ref f8) = true)
    {f9 : Addr} {oc9 kV9 dc9 pm9 cd9 ct9 : Value} {od9 an9 : Option Addr} {sl9 : Array (Option Value)}
    (a9 : PySem.W.nsIn K mainGlobals "need_sizes" = some (some (.ref f9))) (l9 : K.lookup f9 = some ⟨oc9, od9, .func (PySem.W.fnOf "need_sizes" "need_sizes" (defArgs s_need_sizes) (defBody s_need_sizes) (defScope s_need_sizes) .none kV9 dc9 pm9 an9 cd9 ct9), sl9⟩) (c9 : PySem.W.codeIn K cd9 "need_sizes" = true) (k9 : PySem.W.keepIn K (.ref f9) = true)
    {f10 : Addr} {oc10 kV10 dc10 pm10 cd10 ct10 : Value} {od10 an10 : Option Addr} {sl10 : Array (Option Value)}
    (a10 : PySem.W.nsIn K mainGlobals "need_lot" = some (some (.ref f10))) (l10 : K.lookup f10 = some ⟨oc10, od10, .func (PySem.W.fnOf "need_lot" "need_lot" (defArgs s_need_lot) (defBody s_need_lot) (defScope s_need_lot) .none kV10 dc10 pm10 an10 cd10 ct10), sl10⟩) (c10 : PySem.W.codeIn K cd10 "need_lot" = true) (k10 : PySem.W.keepIn K (.ref f10) = true)
    {f11 : Addr} {oc11 kV11 dc11 pm11 cd11 ct11 : Value} {od11 an11 : Option Addr} {sl11 : Array (Option Value)}
    (a11 : PySem.W.nsIn K mainGlobals "need_setting" = some (some (.ref f11))) (l11 : K.lookup f11 = some ⟨oc11, od11, .func (PySem.W.fnOf "need_setting" "need_setting" (defArgs s_need_setting) (defBody s_need_setting) (defScope s_need_setting) .none kV11 dc11 pm11 an11 cd11 ct11), sl11⟩) (c11 : PySem.W.codeIn K cd11 "need_setting" = true) (k11 : PySem.W.keepIn K (.ref f11) = true)
    {f12 : Addr} {oc12 kV12 dc12 pm12 cd12 ct12 : Value} {od12 an12 : Option Addr} {sl12 : Array (Option Value)}
    (a12 : PySem.W.nsIn K mainGlobals "settings_many" = some (some (.ref f12))) (l12 : K.lookup f12 = some ⟨oc12, od12, .func (PySem.W.fnOf "settings_many" "settings_many" (defArgs s_settings_many) (defBody s_settings_many) (defScope s_settings_many) .none kV12 dc12 pm12 an12 cd12 ct12), sl12⟩) (c12 : PySem.W.codeIn K cd12 "settings_many" = true) (k12 : PySem.W.keepIn K (.ref f12) = true)
    {f13 : Addr} {oc13 kV13 dc13 pm13 cd13 ct13 : Value} {od13 an13 : Option Addr} {sl13 : Array (Option Value)}
    (a13 : PySem.W.nsIn K mainGlobals "setting_from" = some (some (.ref f13))) (l13 : K.lookup f13 = some ⟨oc13, od13, .func (PySem.W.fnOf "setting_from" "setting_from" (defArgs s_setting_from) (defBody s_setting_from) (defScope s_setting_from) .none kV13 dc13 pm13 an13 cd13 ct13), sl13⟩) (c13 : PySem.W.codeIn K cd13 "setting_from" = true) (k13 : PySem.W.keepIn K (.ref f13) = true)
    {f14 : Addr} {oc14 kV14 dc14 pm14 cd14 ct14 : Value} {od14 an14 : Option Addr} {sl14 : Array (Option Value)}
    (a14 : PySem.W.nsIn K mainGlobals "settings_of" = some (some (.ref f14))) (l14 : K.lookup f14 = some ⟨oc14, od14, .func (PySem.W.fnOf "settings_of" "settings_of" (defArgs s_settings_of) (defBody s_settings_of) (defScope s_settings_of) .none kV14 dc14 pm14 an14 cd14 ct14), sl14⟩) (c14 : PySem.W.codeIn K cd14 "settings_of" = true) (k14 : PySem.W.keepIn K (.ref f14) = true)
    {f15 : Addr} {oc15 kV15 dc15 pm15 cd15 ct15 : Value} {od15 an15 : Option Addr} {sl15 : Array (Option Value)}
    (a15 : PySem.W.nsIn K mainGlobals "place_in" = some (some (.ref f15))) (l15 : K.lookup f15 = some ⟨oc15, od15, .func (PySem.W.fnOf "place_in" "place_in" (defArgs s_place_in) (defBody s_place_in) (defScope s_place_in) .none kV15 dc15 pm15 an15 cd15 ct15), sl15⟩) (c15 : PySem.W.codeIn K cd15 "place_in" = true) (k15 : PySem.W.keepIn K (.ref f15) = true)
    {f16 : Addr} {oc16 kV16 dc16 pm16 cd16 ct16 : Value} {od16 an16 : Option Addr} {sl16 : Array (Option Value)}
    (a16 : PySem.W.nsIn K mainGlobals "place_of" = some (some (.ref f16))) (l16 : K.lookup f16 = some ⟨oc16, od16, .func (PySem.W.fnOf "place_of" "place_of" (defArgs s_place_of) (defBody s_place_of) (defScope s_place_of) .none kV16 dc16 pm16 an16 cd16 ct16), sl16⟩) (c16 : PySem.W.codeIn K cd16 "place_of" = true) (k16 : PySem.W.keepIn K (.ref f16) = true)
    {f17 : Addr} {oc17 kV17 dc17 pm17 cd17 ct17 : Value} {od17 an17 : Option Addr} {sl17 : Array (Option Value)}
    (a17 : PySem.W.nsIn K mainGlobals "setting_at" = some (some (.ref f17))) (l17 : K.lookup f17 = some ⟨oc17, od17, .func (PySem.W.fnOf "setting_at" "setting_at" (defArgs s_setting_at) (defBody s_setting_at) (defScope s_setting_at) .none kV17 dc17 pm17 an17 cd17 ct17), sl17⟩) (c17 : PySem.W.codeIn K cd17 "setting_at" = true) (k17 : PySem.W.keepIn K (.ref f17) = true)
    {f18 : Addr} {oc18 kV18 dc18 pm18 cd18 ct18 : Value} {od18 an18 : Option Addr} {sl18 : Array (Option Value)}
    (a18 : PySem.W.nsIn K mainGlobals "values_on" = some (some (.ref f18))) (l18 : K.lookup f18 = some ⟨oc18, od18, .func (PySem.W.fnOf "values_on" "values_on" (defArgs s_values_on) (defBody s_values_on) (defScope s_values_on) .none kV18 dc18 pm18 an18 cd18 ct18), sl18⟩) (c18 : PySem.W.codeIn K cd18 "values_on" = true) (k18 : PySem.W.keepIn K (.ref f18) = true)
    {f19 : Addr} {oc19 kV19 dc19 pm19 cd19 ct19 : Value} {od19 an19 : Option Addr} {sl19 : Array (Option Value)}
    (a19 : PySem.W.nsIn K mainGlobals "choices_on" = some (some (.ref f19))) (l19 : K.lookup f19 = some ⟨oc19, od19, .func (PySem.W.fnOf "choices_on" "choices_on" (defArgs s_choices_on) (defBody s_choices_on) (defScope s_choices_on) .none kV19 dc19 pm19 an19 cd19 ct19), sl19⟩) (c19 : PySem.W.codeIn K cd19 "choices_on" = true) (k19 : PySem.W.keepIn K (.ref f19) = true)
    {f20 : Addr} {oc20 kV20 dc20 pm20 cd20 ct20 : Value} {od20 an20 : Option Addr} {sl20 : Array (Option Value)}
    (a20 : PySem.W.nsIn K mainGlobals "put_on" = some (some (.ref f20))) (l20 : K.lookup f20 = some ⟨oc20, od20, .func (PySem.W.fnOf "put_on" "put_on" (defArgs s_put_on) (defBody s_put_on) (defScope s_put_on) .none kV20 dc20 pm20 an20 cd20 ct20), sl20⟩) (c20 : PySem.W.codeIn K cd20 "put_on" = true) (k20 : PySem.W.keepIn K (.ref f20) = true)
    {f21 : Addr} {oc21 kV21 dc21 pm21 cd21 ct21 : Value} {od21 an21 : Option Addr} {sl21 : Array (Option Value)}
    (a21 : PySem.W.nsIn K mainGlobals "is_quotient" = some (some (.ref f21))) (l21 : K.lookup f21 = some ⟨oc21, od21, .func (PySem.W.fnOf "is_quotient" "is_quotient" (defArgs s_is_quotient) (defBody s_is_quotient) (defScope s_is_quotient) .none kV21 dc21 pm21 an21 cd21 ct21), sl21⟩) (c21 : PySem.W.codeIn K cd21 "is_quotient" = true) (k21 : PySem.W.keepIn K (.ref f21) = true)
    {f22 : Addr} {oc22 kV22 dc22 pm22 cd22 ct22 : Value} {od22 an22 : Option Addr} {sl22 : Array (Option Value)}
    (a22 : PySem.W.nsIn K mainGlobals "reduced" = some (some (.ref f22))) (l22 : K.lookup f22 = some ⟨oc22, od22, .func (PySem.W.fnOf "reduced" "reduced" (defArgs s_reduced) (defBody s_reduced) (defScope s_reduced) .none kV22 dc22 pm22 an22 cd22 ct22), sl22⟩) (c22 : PySem.W.codeIn K cd22 "reduced" = true) (k22 : PySem.W.keepIn K (.ref f22) = true)
    {f23 : Addr} {oc23 kV23 dc23 pm23 cd23 ct23 : Value} {od23 an23 : Option Addr} {sl23 : Array (Option Value)}
    (a23 : PySem.W.nsIn K mainGlobals "quotient_of" = some (some (.ref f23))) (l23 : K.lookup f23 = some ⟨oc23, od23, .func (PySem.W.fnOf "quotient_of" "quotient_of" (defArgs s_quotient_of) (defBody s_quotient_of) (defScope s_quotient_of) .none kV23 dc23 pm23 an23 cd23 ct23), sl23⟩) (c23 : PySem.W.codeIn K cd23 "quotient_of" = true) (k23 : PySem.W.keepIn K (.ref f23) = true)
    {f24 : Addr} {oc24 kV24 dc24 pm24 cd24 ct24 : Value} {od24 an24 : Option Addr} {sl24 : Array (Option Value)}
    (a24 : PySem.W.nsIn K mainGlobals "need_quotients" = some (some (.ref f24))) (l24 : K.lookup f24 = some ⟨oc24, od24, .func (PySem.W.fnOf "need_quotients" "need_quotients" (defArgs s_need_quotients) (defBody s_need_quotients) (defScope s_need_quotients) .none kV24 dc24 pm24 an24 cd24 ct24), sl24⟩) (c24 : PySem.W.codeIn K cd24 "need_quotients" = true) (k24 : PySem.W.keepIn K (.ref f24) = true)
    {f25 : Addr} {oc25 kV25 dc25 pm25 cd25 ct25 : Value} {od25 an25 : Option Addr} {sl25 : Array (Option Value)}
    (a25 : PySem.W.nsIn K mainGlobals "plus" = some (some (.ref f25))) (l25 : K.lookup f25 = some ⟨oc25, od25, .func (PySem.W.fnOf "plus" "plus" (defArgs s_plus) (defBody s_plus) (defScope s_plus) .none kV25 dc25 pm25 an25 cd25 ct25), sl25⟩) (c25 : PySem.W.codeIn K cd25 "plus" = true) (k25 : PySem.W.keepIn K (.ref f25) = true)
    {f26 : Addr} {oc26 kV26 dc26 pm26 cd26 ct26 : Value} {od26 an26 : Option Addr} {sl26 : Array (Option Value)}
    (a26 : PySem.W.nsIn K mainGlobals "times" = some (some (.ref f26))) (l26 : K.lookup f26 = some ⟨oc26, od26, .func (PySem.W.fnOf "times" "times" (defArgs s_times) (defBody s_times) (defScope s_times) .none kV26 dc26 pm26 an26 cd26 ct26), sl26⟩) (c26 : PySem.W.codeIn K cd26 "times" = true) (k26 : PySem.W.keepIn K (.ref f26) = true)
    {f27 : Addr} {oc27 kV27 dc27 pm27 cd27 ct27 : Value} {od27 an27 : Option Addr} {sl27 : Array (Option Value)}
    (a27 : PySem.W.nsIn K mainGlobals "_law_draw" = some (some (.ref f27))) (l27 : K.lookup f27 = some ⟨oc27, od27, .func (PySem.W.fnOf "_law_draw" "_law_draw" (defArgs s__law_draw) (defBody s__law_draw) (defScope s__law_draw) .none kV27 dc27 pm27 an27 cd27 ct27), sl27⟩) (c27 : PySem.W.codeIn K cd27 "_law_draw" = true) (k27 : PySem.W.keepIn K (.ref f27) = true)
    {f28 : Addr} {oc28 kV28 dc28 pm28 cd28 ct28 : Value} {od28 an28 : Option Addr} {sl28 : Array (Option Value)}
    (a28 : PySem.W.nsIn K mainGlobals "_law_number" = some (some (.ref f28))) (l28 : K.lookup f28 = some ⟨oc28, od28, .func (PySem.W.fnOf "_law_number" "_law_number" (defArgs s__law_number) (defBody s__law_number) (defScope s__law_number) .none kV28 dc28 pm28 an28 cd28 ct28), sl28⟩) (c28 : PySem.W.codeIn K cd28 "_law_number" = true) (k28 : PySem.W.keepIn K (.ref f28) = true)
    {f29 : Addr} {oc29 kV29 dc29 pm29 cd29 ct29 : Value} {od29 an29 : Option Addr} {sl29 : Array (Option Value)}
    (a29 : PySem.W.nsIn K mainGlobals "_law_sizes" = some (some (.ref f29))) (l29 : K.lookup f29 = some ⟨oc29, od29, .func (PySem.W.fnOf "_law_sizes" "_law_sizes" (defArgs s__law_sizes) (defBody s__law_sizes) (defScope s__law_sizes) .none kV29 dc29 pm29 an29 cd29 ct29), sl29⟩) (c29 : PySem.W.codeIn K cd29 "_law_sizes" = true) (k29 : PySem.W.keepIn K (.ref f29) = true)
    {f30 : Addr} {oc30 kV30 dc30 pm30 cd30 ct30 : Value} {od30 an30 : Option Addr} {sl30 : Array (Option Value)}
    (a30 : PySem.W.nsIn K mainGlobals "_law_counted" = some (some (.ref f30))) (l30 : K.lookup f30 = some ⟨oc30, od30, .func (PySem.W.fnOf "_law_counted" "_law_counted" (defArgs s__law_counted) (defBody s__law_counted) (defScope s__law_counted) .none kV30 dc30 pm30 an30 cd30 ct30), sl30⟩) (c30 : PySem.W.codeIn K cd30 "_law_counted" = true) (k30 : PySem.W.keepIn K (.ref f30) = true)
    {f31 : Addr} {oc31 kV31 dc31 pm31 cd31 ct31 : Value} {od31 an31 : Option Addr} {sl31 : Array (Option Value)}
    (a31 : PySem.W.nsIn K mainGlobals "_law_lots" = some (some (.ref f31))) (l31 : K.lookup f31 = some ⟨oc31, od31, .func (PySem.W.fnOf "_law_lots" "_law_lots" (defArgs s__law_lots) (defBody s__law_lots) (defScope s__law_lots) .none kV31 dc31 pm31 an31 cd31 ct31), sl31⟩) (c31 : PySem.W.codeIn K cd31 "_law_lots" = true) (k31 : PySem.W.keepIn K (.ref f31) = true)
    {f32 : Addr} {oc32 kV32 dc32 pm32 cd32 ct32 : Value} {od32 an32 : Option Addr} {sl32 : Array (Option Value)}
    (a32 : PySem.W.nsIn K mainGlobals "_law_places_hold" = some (some (.ref f32))) (l32 : K.lookup f32 = some ⟨oc32, od32, .func (PySem.W.fnOf "_law_places_hold" "_law_places_hold" (defArgs s__law_places_hold) (defBody s__law_places_hold) (defScope s__law_places_hold) .none kV32 dc32 pm32 an32 cd32 ct32), sl32⟩) (c32 : PySem.W.codeIn K cd32 "_law_places_hold" = true) (k32 : PySem.W.keepIn K (.ref f32) = true)
    {f33 : Addr} {oc33 kV33 dc33 pm33 cd33 ct33 : Value} {od33 an33 : Option Addr} {sl33 : Array (Option Value)}
    (a33 : PySem.W.nsIn K mainGlobals "_law_choices_hold" = some (some (.ref f33))) (l33 : K.lookup f33 = some ⟨oc33, od33, .func (PySem.W.fnOf "_law_choices_hold" "_law_choices_hold" (defArgs s__law_choices_hold) (defBody s__law_choices_hold) (defScope s__law_choices_hold) .none kV33 dc33 pm33 an33 cd33 ct33), sl33⟩) (c33 : PySem.W.codeIn K cd33 "_law_choices_hold" = true) (k33 : PySem.W.keepIn K (.ref f33) = true)
    {f34 : Addr} {oc34 kV34 dc34 pm34 cd34 ct34 : Value} {od34 an34 : Option Addr} {sl34 : Array (Option Value)}
    (a34 : PySem.W.nsIn K mainGlobals "_law_common" = some (some (.ref f34))) (l34 : K.lookup f34 = some ⟨oc34, od34, .func (PySem.W.fnOf "_law_common" "_law_common" (defArgs s__law_common) (defBody s__law_common) (defScope s__law_common) .none kV34 dc34 pm34 an34 cd34 ct34), sl34⟩) (c34 : PySem.W.codeIn K cd34 "_law_common" = true) (k34 : PySem.W.keepIn K (.ref f34) = true)
    {f35 : Addr} {oc35 kV35 dc35 pm35 cd35 ct35 : Value} {od35 an35 : Option Addr} {sl35 : Array (Option Value)}
    (a35 : PySem.W.nsIn K mainGlobals "_law_is_worth" = some (some (.ref f35))) (l35 : K.lookup f35 = some ⟨oc35, od35, .func (PySem.W.fnOf "_law_is_worth" "_law_is_worth" (defArgs s__law_is_worth) (defBody s__law_is_worth) (defScope s__law_is_worth) .none kV35 dc35 pm35 an35 cd35 ct35), sl35⟩) (c35 : PySem.W.codeIn K cd35 "_law_is_worth" = true) (k35 : PySem.W.keepIn K (.ref f35) = true)
    {f36 : Addr} {oc36 kV36 dc36 pm36 cd36 ct36 : Value} {od36 an36 : Option Addr} {sl36 : Array (Option Value)}
    (a36 : PySem.W.nsIn K mainGlobals "_law_quotient" = some (some (.ref f36))) (l36 : K.lookup f36 = some ⟨oc36, od36, .func (PySem.W.fnOf "_law_quotient" "_law_quotient" (defArgs s__law_quotient) (defBody s__law_quotient) (defScope s__law_quotient) .none kV36 dc36 pm36 an36 cd36 ct36), sl36⟩) (c36 : PySem.W.codeIn K cd36 "_law_quotient" = true) (k36 : PySem.W.keepIn K (.ref f36) = true)
    {f37 : Addr} {oc37 kV37 dc37 pm37 cd37 ct37 : Value} {od37 an37 : Option Addr} {sl37 : Array (Option Value)}
    (a37 : PySem.W.nsIn K mainGlobals "_law_quotients_hold" = some (some (.ref f37))) (l37 : K.lookup f37 = some ⟨oc37, od37, .func (PySem.W.fnOf "_law_quotients_hold" "_law_quotients_hold" (defArgs s__law_quotients_hold) (defBody s__law_quotients_hold) (defScope s__law_quotients_hold) .none kV37 dc37 pm37 an37 cd37 ct37), sl37⟩) (c37 : PySem.W.codeIn K cd37 "_law_quotients_hold" = true) (k37 : PySem.W.keepIn K (.ref f37) = true)
    {f38 : Addr} {oc38 kV38 dc38 pm38 cd38 ct38 : Value} {od38 an38 : Option Addr} {sl38 : Array (Option Value)}
    (a38 : PySem.W.nsIn K mainGlobals "_law_rows_fold" = some (some (.ref f38))) (l38 : K.lookup f38 = some ⟨oc38, od38, .func (PySem.W.fnOf "_law_rows_fold" "_law_rows_fold" (defArgs s__law_rows_fold) (defBody s__law_rows_fold) (defScope s__law_rows_fold) .none kV38 dc38 pm38 an38 cd38 ct38), sl38⟩) (c38 : PySem.W.codeIn K cd38 "_law_rows_fold" = true) (k38 : PySem.W.keepIn K (.ref f38) = true)
    {f39 : Addr} {oc39 kV39 dc39 pm39 cd39 ct39 : Value} {od39 an39 : Option Addr} {sl39 : Array (Option Value)}
    (a39 : PySem.W.nsIn K mainGlobals "_law_refused" = some (some (.ref f39))) (l39 : K.lookup f39 = some ⟨oc39, od39, .func (PySem.W.fnOf "_law_refused" "_law_refused" (defArgs s__law_refused) (defBody s__law_refused) (defScope s__law_refused) .none kV39 dc39 pm39 an39 cd39 ct39), sl39⟩) (c39 : PySem.W.codeIn K cd39 "_law_refused" = true) (k39 : PySem.W.keepIn K (.ref f39) = true)
    {f40 : Addr} {oc40 kV40 dc40 pm40 cd40 ct40 : Value} {od40 an40 : Option Addr} {sl40 : Array (Option Value)}
    (a40 : PySem.W.nsIn K mainGlobals "_law_ends_hold" = some (some (.ref f40))) (l40 : K.lookup f40 = some ⟨oc40, od40, .func (PySem.W.fnOf "_law_ends_hold" "_law_ends_hold" (defArgs s__law_ends_hold) (defBody s__law_ends_hold) (defScope s__law_ends_hold) .none kV40 dc40 pm40 an40 cd40 ct40), sl40⟩) (c40 : PySem.W.codeIn K cd40 "_law_ends_hold" = true) (k40 : PySem.W.keepIn K (.ref f40) = true)
    {f41 : Addr} {oc41 kV41 dc41 pm41 cd41 ct41 : Value} {od41 an41 : Option Addr} {sl41 : Array (Option Value)}
    (a41 : PySem.W.nsIn K mainGlobals "law" = some (some (.ref f41))) (l41 : K.lookup f41 = some ⟨oc41, od41, .func (PySem.W.fnOf "law" "law" (defArgs s_law) (defBody s_law) (defScope s_law) .none kV41 dc41 pm41 an41 cd41 ct41), sl41⟩) (c41 : PySem.W.codeIn K cd41 "law" = true) (k41 : PySem.W.keepIn K (.ref f41) = true)
    (z0 : PySem.W.nsIn K mainGlobals "len" = some none)
    (z1 : PySem.W.nsIn K mainGlobals "all" = some none)
    (z2 : PySem.W.nsIn K mainGlobals "any" = some none)
    (z3 : PySem.W.nsIn K mainGlobals "repr" = some none)
    (z4 : PySem.W.nsIn K mainGlobals "abs" = some none)
    (z5 : PySem.W.nsIn K mainGlobals "max" = some none)
    (z6 : PySem.W.nsIn K mainGlobals "min" = some none)
    (z7 : PySem.W.nsIn K mainGlobals "divmod" = some none)
    (z8 : PySem.W.nsIn K mainGlobals "int" = some none)
    (z9 : PySem.W.nsIn K mainGlobals "bool" = some none)
    (z10 : PySem.W.nsIn K mainGlobals "str" = some none)
    (z11 : PySem.W.nsIn K mainGlobals "tuple" = some none)
    (z12 : PySem.W.nsIn K mainGlobals "list" = some none)
    (z13 : PySem.W.nsIn K mainGlobals "isinstance" = some none)
    (z14 : PySem.W.nsIn K mainGlobals "range" = some none)
    (z15 : PySem.W.nsIn K mainGlobals "zip" = some none)
    (z16 : PySem.W.nsIn K mainGlobals "enumerate" = some none)
    (z17 : PySem.W.nsIn K mainGlobals "sorted" = some none)
    (z18 : PySem.W.nsIn K mainGlobals "set" = some none)
    (z19 : PySem.W.nsIn K mainGlobals "sum" = some none)
    (zg : PySem.W.nsIn K mainGlobals "gcd" = some (some (.builtin "math.gcd")))
    {C fI : Addr} {nm q : Str} {N : Addr} {bs bm : List Value} {sn : List Str} {sub : List Value} {ab : Bool} {col : Option Bool} {dd : Option Addr} {m0 m1 m2 m3 m5 : Option Value}
    {oc : Value} {od an : Option Addr} {osl : Array (Option Value)} {kV doc pm cdv ct : Value} (aC : PySem.W.nsIn K mainGlobals "NotUsable" = some (some (.ref C)))
    (xL : K.lookup C = some (excClassObj nm q C N bs bm true sn sub ab col dd m0 m1 m2 m3 m5 "ValueError.__new__")) (sa : PySem.W.findIn K (.ref C) "__setattr__" = some (some (.builtin "object.__setattr__")))
    (ga : PySem.W.findIn K (.ref C) "__getattribute__" = some (some (.builtin "BaseException.__getattribute__"))) (gg : PySem.W.findIn K (.ref C) "__getattr__" = some none) (n1 : PySem.W.findIn K (.ref C) "word" = some none) (n2 : PySem.W.findIn K (.ref C) "at" = some none)
    (aI : PySem.W.findIn K (.ref C) "__init__" = some (some (.ref fI))) (t1 : PySem.W.typeIn K (.ref fI) = some (.type "function")) (lI : K.lookup fI = some ⟨oc, od, .func (PySem.W.fnOf "__init__" "NotUsable.__init__" (defArgs s_init) (defBody s_init) (defScope s_init) .none kV doc pm an cdv ct), osl⟩)
    (cI : PySem.W.codeIn K cdv "NotUsable.__init__" = true) (kI : PySem.W.keepIn K (.ref fI) = true) (kC : PySem.W.keepIn K (.ref C) = true) (eC : PySem.W.subIn K (.ref C) (.type "BaseException") = some true) (tC : PySem.W.typeIn K (.ref C) = some (.type "type")) (hC : PySem.W.hasDictIn K C = true)
    (sC : PySem.W.subIn K (.ref C) (.ref C) = some true) (vE : PySem.HandSPX.refsVE bm = true) (eqt : PySem.W.subIn K (.ref C) (.type "StopIteration") = some false) :
    ∃ fd : FuncData, (∀ (s : Shared) (u : Value), BindsTo s fd ⟨[u], []⟩ [(("_law_script" : Str), u)]) ∧ ∀ base : Heap, K.In base → base.Ns mainGlobals mg → FnG True l.prog w K mg base 11 fa fd [("_law_script" : Str)] (spLaw K) := by
  have e := hfa.symm.trans (PySem.W.mg_of X G a41)
  cases e
  have h0 := here_mk (st := s_is_integer) (ps := [("thing" : Str)]) X G a0 l0 c0 k0 (fun _ _ _ _ _ _ us hl => match us, hl with | [_], _ => rfl)
  have h1 := here_mk (st := s_is_number) (ps := [("thing" : Str)]) X G a1 l1 c1 k1 (fun _ _ _ _ _ _ us hl => match us, hl with | [_], _ => rfl)
  have h2 := here_mk (st := s_is_many) (ps := [("thing" : Str)]) X G a2 l2 c2 k2 (fun _ _ _ _ _ _ us hl => match us, hl with | [_], _ => rfl)
  have h3 := here_mk (st := s_is_sizes) (ps := [("thing" : Str)]) X G a3 l3 c3 k3 (fun _ _ _ _ _ _ us hl => match us, hl with | [_], _ => rfl)
  have h4 := here_mk (st := s_is_index) (ps := [("many" : Str), ("thing" : Str)]) X G a4 l4 c4 k4 (fun _ _ _ _ _ _ us hl => match us, hl with | [_, _], _ => rfl)
  have h5 := here_mk (st := s_is_ascending) (ps := [("things" : Str)]) X G a5 l5 c5 k5 (fun _ _ _ _ _ _ us hl => match us, hl with | [_], _ => rfl)
  have h6 := here_mk (st := s_right_setting) (ps := [("sizes" : Str), ("thing" : Str)]) X G a6 l6 c6 k6 (fun _ _ _ _ _ _ us hl => match us, hl with | [_, _], _ => rfl)
  have h7 := here_mk (st := s_right_lot) (ps := [("many" : Str), ("thing" : Str)]) X G a7 l7 c7 k7 (fun _ _ _ _ _ _ us hl => match us, hl with | [_, _], _ => rfl)
  have h8 := here_mk (st := s_need) (ps := [("holds" : Str), ("word" : Str)]) X G a8 l8 c8 k8 (fun _ _ _ _ _ _ us hl => match us, hl with | [_, _], _ => rfl)
  have h9 := here_mk (st := s_need_sizes) (ps := [("sizes" : Str)]) X G a9 l9 c9 k9 (fun _ _ _ _ _ _ us hl => match us, hl with | [_], _ => rfl)
  have h10 := here_mk (st := s_need_lot) (ps := [("many" : Str), ("lot" : Str)]) X G a10 l10 c10 k10 (fun _ _ _ _ _ _ us hl => match us, hl with | [_, _], _ => rfl)
  have h11 := here_mk (st := s_need_setting) (ps := [("sizes" : Str), ("setting" : Str)]) X G a11 l11 c11 k11 (fun _ _ _ _ _ _ us hl => match us, hl with | [_, _], _ => rfl)
  have h12 := here_mk (st := s_settings_many) (ps := [("sizes" : Str)]) X G a12 l12 c12 k12 (fun _ _ _ _ _ _ us hl => match us, hl with | [_], _ => rfl)
  have h13 := here_mk (st := s_setting_from) (ps := [("sizes" : Str), ("place" : Str)]) X G a13 l13 c13 k13 (fun _ _ _ _ _ _ us hl => match us, hl with | [_, _], _ => rfl)
  have h14 := here_mk (st := s_settings_of) (ps := [("sizes" : Str)]) X G a14 l14 c14 k14 (fun _ _ _ _ _ _ us hl => match us, hl with | [_], _ => rfl)
  have h15 := here_mk (st := s_place_in) (ps := [("sizes" : Str), ("setting" : Str)]) X G a15 l15 c15 k15 (fun _ _ _ _ _ _ us hl => match us, hl with | [_, _], _ => rfl)
  have h16 := here_mk (st := s_place_of) (ps := [("sizes" : Str), ("setting" : Str)]) X G a16 l16 c16 k16 (fun _ _ _ _ _ _ us hl => match us, hl with | [_, _], _ => rfl)
  have h17 := here_mk (st := s_setting_at) (ps := [("sizes" : Str), ("place" : Str)]) X G a17 l17 c17 k17 (fun _ _ _ _ _ _ us hl => match us, hl with | [_, _], _ => rfl)
  have h18 := here_mk (st := s_values_on) (ps := [("values" : Str), ("lot" : Str)]) X G a18 l18 c18 k18 (fun _ _ _ _ _ _ us hl => match us, hl with | [_, _], _ => rfl)
  have h19 := here_mk (st := s_choices_on) (ps := [("sizes" : Str), ("setting" : Str), ("lot" : Str)]) X G a19 l19 c19 k19 (fun _ _ _ _ _ _ us hl => match us, hl with | [_, _, _], _ => rfl)
  have h20 := here_mk (st := s_put_on) (ps := [("sizes" : Str), ("setting" : Str), ("lot" : Str), ("choices" : Str)]) X G a20 l20 c20 k20 (fun _ _ _ _ _ _ us hl => match us, hl with | [_, _, _, _], _ => rfl)
  have h21 := here_mk (st := s_is_quotient) (ps := [("thing" : Str)]) X G a21 l21 c21 k21 (fun _ _ _ _ _ _ us hl => match us, hl with | [_], _ => rfl)
  have h22 := here_mk (st := s_reduced) (ps := [("top" : Str), ("bottom" : Str)]) X G a22 l22 c22 k22 (fun _ _ _ _ _ _ us hl => match us, hl with | [_, _], _ => rfl)
  have h23 := here_mk (st := s_quotient_of) (ps := [("top" : Str), ("bottom" : Str)]) X G a23 l23 c23 k23 (fun _ _ _ _ _ _ us hl => match us, hl with | [_, _], _ => rfl)
  have h24 := here_mk (st := s_need_quotients) (ps := [("one" : Str), ("other" : Str)]) X G a24 l24 c24 k24 (fun _ _ _ _ _ _ us hl => match us, hl with | [_, _], _ => rfl)
  have h25 := here_mk (st := s_plus) (ps := [("one" : Str), ("other" : Str)]) X G a25 l25 c25 k25 (fun _ _ _ _ _ _ us hl => match us, hl with | [_, _], _ => rfl)
  have h26 := here_mk (st := s_times) (ps := [("one" : Str), ("other" : Str)]) X G a26 l26 c26 k26 (fun _ _ _ _ _ _ us hl => match us, hl with | [_, _], _ => rfl)
  have h27 := here_mk (st := s__law_draw) (ps := [("_law_source" : Str), ("_law_top" : Str)]) X G a27 l27 c27 k27 (fun _ _ _ _ _ _ us hl => match us, hl with | [_, _], _ => rfl)
  have h28 := here_mk (st := s__law_number) (ps := [("_law_source" : Str), ("_law_laps" : Str)]) X G a28 l28 c28 k28 (fun _ _ _ _ _ _ us hl => match us, hl with | [_, _], _ => rfl)
  have h29 := here_mk (st := s__law_sizes) (ps := [("_law_source" : Str)]) X G a29 l29 c29 k29 (fun _ _ _ _ _ _ us hl => match us, hl with | [_], _ => rfl)
  have h30 := here_mk (st := s__law_counted) (ps := [("_law_sizes_here" : Str), ("_law_place" : Str)]) X G a30 l30 c30 k30 (fun _ _ _ _ _ _ us hl => match us, hl with | [_, _], _ => rfl)
  have h31 := here_mk (st := s__law_lots) (ps := [("_law_n" : Str)]) X G a31 l31 c31 k31 (fun _ _ _ _ _ _ us hl => match us, hl with | [_], _ => rfl)
  have h32 := here_mk (st := s__law_places_hold) (ps := [("_law_sizes_here" : Str), ("_law_all_of" : Str)]) X G a32 l32 c32 k32 (fun _ _ _ _ _ _ us hl => match us, hl with | [_, _], _ => rfl)
  have h33 := here_mk (st := s__law_choices_hold) (ps := [("_law_source" : Str), ("_law_sizes_here" : Str), ("_law_all_of" : Str)]) X G a33 l33 c33 k33 (fun _ _ _ _ _ _ us hl => match us, hl with | [_, _, _], _ => rfl)
  have h34 := here_mk (st := s__law_common) (ps := [("_law_one_number" : Str), ("_law_other_number" : Str)]) X G a34 l34 c34 k34 (fun _ _ _ _ _ _ us hl => match us, hl with | [_, _], _ => rfl)
  have h35 := here_mk (st := s__law_is_worth) (ps := [("_law_told" : Str), ("_law_high" : Str), ("_law_low" : Str)]) X G a35 l35 c35 k35 (fun _ _ _ _ _ _ us hl => match us, hl with | [_, _, _], _ => rfl)
  have h36 := here_mk (st := s__law_quotient) (ps := [("_law_source" : Str)]) X G a36 l36 c36 k36 (fun _ _ _ _ _ _ us hl => match us, hl with | [_], _ => rfl)
  have h37 := here_mk (st := s__law_quotients_hold) (ps := [("_law_source" : Str)]) X G a37 l37 c37 k37 (fun _ _ _ _ _ _ us hl => match us, hl with | [_], _ => rfl)
  have h38 := here_mk (st := s__law_rows_fold) (ps := [("_law_source" : Str)]) X G a38 l38 c38 k38 (fun _ _ _ _ _ _ us hl => match us, hl with | [_], _ => rfl)
  have h39 := here_mk (st := s__law_refused) (ps := [("_law_number_here" : Str), ("_law_sizes_here" : Str), ("_law_worth" : Str), ("_law_lot" : Str)]) X G a39 l39 c39 k39 (fun _ _ _ _ _ _ us hl => match us, hl with | [_, _, _, _], _ => rfl)
  have h40 := here_mk (st := s__law_ends_hold) (ps := [("_law_source" : Str), ("_law_sizes_here" : Str)]) X G a40 l40 c40 k40 (fun _ _ _ _ _ _ us hl => match us, hl with | [_, _], _ => rfl)
  have h41 := here_mk (st := s_law) (ps := [("_law_script" : Str)]) X G a41 l41 c41 k41 (fun _ _ _ _ _ _ us hl => match us, hl with | [_], _ => rfl)
  have T : Txt K mg := ⟨h0, h1, h2, h3, h4, h5, h6, h7, h8, h9, h10, h11, h12, h13, h14, h15, h16, h17, h18, h19, h20, h21, h22, h23, h24, h25, h26, h27, h28, h29, h30, h31, h32, h33, h34, h35, h36, h37, h38, h39, h40, h41⟩
  have B : Bk mg := ⟨⟨PySem.W.mg_none_of X G z0, PySem.W.mg_none_of X G z1, PySem.W.mg_none_of X G z2, PySem.W.mg_none_of X G z3, PySem.W.mg_none_of X G z4, PySem.W.mg_none_of X G z5, PySem.W.mg_none_of X G z6, PySem.W.mg_none_of X G z7, PySem.W.mg_none_of X G z8, PySem.W.mg_none_of X G z9, PySem.W.mg_none_of X G z10, PySem.W.mg_none_of X G z11, PySem.W.mg_none_of X G z12, PySem.W.mg_none_of X G z13, PySem.W.mg_none_of X G z14, PySem.W.mg_none_of X G z15, PySem.W.mg_none_of X G z16, PySem.W.mg_none_of X G z17, PySem.W.mg_none_of X G z18, PySem.W.mg_none_of X G z19⟩, PySem.W.mg_of X G zg⟩
  have F := fun_mk (st := s_law) l41 c41 k41
  exact ⟨_, fun s u => .of_eq rfl, fun base _ _ => chain T B (ex2_mk X G aC xL sa ga gg n1 n2 aI t1 lI cI kI kC eC tC hC sC vE l.prog w base) eqt cells (main C) F⟩
end K1

open PySem PySem.W PyProof.Rows
set_option Elab.async false
set_option linter.all false
set_option maxRecDepth 100000 in
set_option maxHeartbeats 0 in
theorem PySem.Challenge.cw_closereckoned_k01_whole_settings_and_quo_holds : PySem.Challenge.rw_closereckoned_k01_whole_settings_and_quo.Holds := by
  w_on; o_law; k_head; (case hw => w_witness2)
  k_fill
  refine Dn.walkG (l := PySem.Challenge.rw_closereckoned_k01_whole_settings_and_quo) (n := 63) (k := 11) (x := "_law_script") (sp := K1.spLaw) rfl (by decide) rfl ⟨rfl, by decide, by decide⟩ (fun w h Y => PySem.W.kIn_of Y) ?F (fun K H a ns hl _ hS => ⟨a, ns, rfl, hS, hl, fun _ => rfl⟩)
  case F =>
    intro w mg fa h KX G hmg
    refine' K1.all_mk KX G hmg ?a0 ?l0 ?c0 ?k0 ?a1 ?l1 ?c1 ?k1 ?a2 ?l2 ?c2 ?k2 ?a3 ?l3 ?c3 ?k3 ?a4 ?l4 ?c4 ?k4 ?a5 ?l5 ?c5 ?k5 ?a6 ?l6 ?c6 ?k6 ?a7 ?l7 ?c7 ?k7 ?a8 ?l8 ?c8 ?k8 ?a9 ?l9 ?c9 ?k9 ?a10 ?l10 ?c10 ?k10 ?a11 ?l11 ?c11 ?k11 ?a12 ?l12 ?c12 ?k12 ?a13 ?l13 ?c13 ?k13 ?a14 ?l14 ?c14 ?k14 ?a15 ?l15 ?c15 ?k15 ?a16 ?l16 ?c16 ?k16 ?a17 ?l17 ?c17 ?k17 ?a18 ?l18 ?c18 ?k18 ?a19 ?l19 ?c19 ?k19 ?a20 ?l20 ?c20 ?k20 ?a21 ?l21 ?c21 ?k21 ?a22 ?l22 ?c22 ?k22 ?a23 ?l23 ?c23 ?k23 ?a24 ?l24 ?c24 ?k24 ?a25 ?l25 ?c25 ?k25 ?a26 ?l26 ?c26 ?k26 ?a27 ?l27 ?c27 ?k27 ?a28 ?l28 ?c28 ?k28 ?a29 ?l29 ?c29 ?k29 ?a30 ?l30 ?c30 ?k30 ?a31 ?l31 ?c31 ?k31 ?a32 ?l32 ?c32 ?k32 ?a33 ?l33 ?c33 ?k33 ?a34 ?l34 ?c34 ?k34 ?a35 ?l35 ?c35 ?k35 ?a36 ?l36 ?c36 ?k36 ?a37 ?l37 ?c37 ?k37 ?a38 ?l38 ?c38 ?k38 ?a39 ?l39 ?c39 ?k39 ?a40 ?l40 ?c40 ?k40 ?a41 ?l41 ?c41 ?k41 ?z0 ?z1 ?z2 ?z3 ?z4 ?z5 ?z6 ?z7 ?z8 ?z9 ?z10 ?z11 ?z12 ?z13 ?z14 ?z15 ?z16 ?z17 ?z18 ?z19 ?zg ?aC ?xL ?sa ?ga ?gg ?n1 ?n2 ?aI ?t1 ?lI ?cI ?kI ?kC ?eC ?tC ?hC ?sC ?vE ?eqt
    (case a0 => k_is)
    (case l0 => k_is)
    (case c0 => k_is)
    (case k0 => k_is)
    (case a1 => k_is)
    (case l1 => k_is)
    (case c1 => k_is)
    (case k1 => k_is)
    (case a2 => k_is)
    (case l2 => k_is)
    (case c2 => k_is)
    (case k2 => k_is)
    (case a3 => k_is)
    (case l3 => k_is)
    (case c3 => k_is)
    (case k3 => k_is)
    (case a4 => k_is)
    (case l4 => k_is)
    (case c4 => k_is)
    (case k4 => k_is)
    (case a5 => k_is)
    (case l5 => k_is)
    (case c5 => k_is)
    (case k5 => k_is)
    (case a6 => k_is)
    (case l6 => k_is)
    (case c6 => k_is)
    (case k6 => k_is)
    (case a7 => k_is)
    (case l7 => k_is)
    (case c7 => k_is)
    (case k7 => k_is)
    (case a8 => k_is)
    (case l8 => k_is)
    (case c8 => k_is)
    (case k8 => k_is)
    (case a9 => k_is)
    (case l9 => k_is)
    (case c9 => k_is)
    (case k9 => k_is)
    (case a10 => k_is)
    (case l10 => k_is)
    (case c10 => k_is)
    (case k10 => k_is)
    (case a11 => k_is)
    (case l11 => k_is)
    (case c11 => k_is)
    (case k11 => k_is)
    (case a12 => k_is)
    (case l12 => k_is)
    (case c12 => k_is)
    (case k12 => k_is)
    (case a13 => k_is)
    (case l13 => k_is)
    (case c13 => k_is)
    (case k13 => k_is)
    (case a14 => k_is)
    (case l14 => k_is)
    (case c14 => k_is)
    (case k14 => k_is)
    (case a15 => k_is)
    (case l15 => k_is)
    (case c15 => k_is)
    (case k15 => k_is)
    (case a16 => k_is)
    (case l16 => k_is)
    (case c16 => k_is)
    (case k16 => k_is)
    (case a17 => k_is)
    (case l17 => k_is)
    (case c17 => k_is)
    (case k17 => k_is)
    (case a18 => k_is)
    (case l18 => k_is)
    (case c18 => k_is)
    (case k18 => k_is)
    (case a19 => k_is)
    (case l19 => k_is)
    (case c19 => k_is)
    (case k19 => k_is)
    (case a20 => k_is)
    (case l20 => k_is)
    (case c20 => k_is)
    (case k20 => k_is)
    (case a21 => k_is)
    (case l21 => k_is)
    (case c21 => k_is)
    (case k21 => k_is)
    (case a22 => k_is)
    (case l22 => k_is)
    (case c22 => k_is)
    (case k22 => k_is)
    (case a23 => k_is)
    (case l23 => k_is)
    (case c23 => k_is)
    (case k23 => k_is)
    (case a24 => k_is)
    (case l24 => k_is)
    (case c24 => k_is)
    (case k24 => k_is)
    (case a25 => k_is)
    (case l25 => k_is)
    (case c25 => k_is)
    (case k25 => k_is)
    (case a26 => k_is)
    (case l26 => k_is)
    (case c26 => k_is)
    (case k26 => k_is)
    (case a27 => k_is)
    (case l27 => k_is)
    (case c27 => k_is)
    (case k27 => k_is)
    (case a28 => k_is)
    (case l28 => k_is)
    (case c28 => k_is)
    (case k28 => k_is)
    (case a29 => k_is)
    (case l29 => k_is)
    (case c29 => k_is)
    (case k29 => k_is)
    (case a30 => k_is)
    (case l30 => k_is)
    (case c30 => k_is)
    (case k30 => k_is)
    (case a31 => k_is)
    (case l31 => k_is)
    (case c31 => k_is)
    (case k31 => k_is)
    (case a32 => k_is)
    (case l32 => k_is)
    (case c32 => k_is)
    (case k32 => k_is)
    (case a33 => k_is)
    (case l33 => k_is)
    (case c33 => k_is)
    (case k33 => k_is)
    (case a34 => k_is)
    (case l34 => k_is)
    (case c34 => k_is)
    (case k34 => k_is)
    (case a35 => k_is)
    (case l35 => k_is)
    (case c35 => k_is)
    (case k35 => k_is)
    (case a36 => k_is)
    (case l36 => k_is)
    (case c36 => k_is)
    (case k36 => k_is)
    (case a37 => k_is)
    (case l37 => k_is)
    (case c37 => k_is)
    (case k37 => k_is)
    (case a38 => k_is)
    (case l38 => k_is)
    (case c38 => k_is)
    (case k38 => k_is)
    (case a39 => k_is)
    (case l39 => k_is)
    (case c39 => k_is)
    (case k39 => k_is)
    (case a40 => k_is)
    (case l40 => k_is)
    (case c40 => k_is)
    (case k40 => k_is)
    (case a41 => k_is)
    (case l41 => k_is)
    (case c41 => k_is)
    (case k41 => k_is)
    (case z0 => k_is)
    (case z1 => k_is)
    (case z2 => k_is)
    (case z3 => k_is)
    (case z4 => k_is)
    (case z5 => k_is)
    (case z6 => k_is)
    (case z7 => k_is)
    (case z8 => k_is)
    (case z9 => k_is)
    (case z10 => k_is)
    (case z11 => k_is)
    (case z12 => k_is)
    (case z13 => k_is)
    (case z14 => k_is)
    (case z15 => k_is)
    (case z16 => k_is)
    (case z17 => k_is)
    (case z18 => k_is)
    (case z19 => k_is)
    (case zg => k_is)
    (case aC => k_is)
    (case xL => k_is)
    (case sa => k_is)
    (case ga => k_is)
    (case gg => k_is)
    (case n1 => k_is)
    (case n2 => k_is)
    (case aI => k_is)
    (case t1 => k_is)
    (case lI => k_is)
    (case cI => k_is)
    (case kI => k_is)
    (case kC => k_is)
    (case eC => k_is)
    (case tC => k_is)
    (case hC => k_is)
    (case sC => first | k_is | rfl)
    (case vE => decide +kernel)
    (case eqt => k_is)

